"""Sketches: seeds with weights and notes."""

from notesums.errors import InvalidCount, InvalidSeeds, InvalidWeight, OtherSeeds, UnknownSeed
from notesums.limits import KEYS, SEEDS, SUMS, check_many, keys_of
from notesums.names import is_name
from notesums.notes import Note
from notesums.ratios import Ratio, as_ratio, is_integer, is_number


def is_seed(value):
    """Whether any value is a tuple of a NAME, a NUMBER and a Note."""
    if not isinstance(value, tuple) or len(value) != 3:
        return False
    return is_name(value[0]) and is_number(value[1]) and isinstance(value[2], Note)


def check_seeds(value):
    """Raises InvalidSeeds unless a value is a list of seeds with different names, at least one."""
    if not isinstance(value, (list, tuple)) or len(value) == 0:
        raise InvalidSeeds(None)
    names = {}
    for position, seed in enumerate(value):
        if not is_seed(seed) or seed[0] in names:
            raise InvalidSeeds(position)
        names[seed[0]] = True


def check_weights(seeds):
    """Raises InvalidWeight unless all weights are above 0 and add up to 1."""
    total = Ratio(0)
    for name, weight, _ in seeds:
        if as_ratio(weight).sign != 1:
            raise InvalidWeight(name)
        total = total + weight
    if total != Ratio(1):
        raise InvalidWeight(None)


def check_copies(sketch, many):
    """Raises TooMany if so many copies of a sketch have too many sums or seeds."""
    check_many("sums", SUMS, many * max([len(note) for _, _, note in sketch.walk()]))
    seeds = 1
    # Four copies of two seeds are too many, so more need not be counted.
    for _ in range(min(many, 4)):
        seeds = seeds * len(sketch)
    check_many("seeds", SEEDS, seeds)


class Sketch:
    """One to twelve seeds in a sequence, which do not change."""

    def __init__(self, seeds):
        check_seeds(seeds)
        check_weights(seeds)
        check_many("seeds", SEEDS, len(seeds))
        check_many("keys", KEYS, len(keys_of([note for _, _, note in seeds])))
        self._weights = {name: as_ratio(weight) for name, weight, _ in seeds}
        self._notes = {name: note for name, _, note in seeds}

    def seeds(self):
        """The list of the names of the seeds, in sequence."""
        return list(self._weights)

    def used_keys(self):
        """The sorted list of the keys of all notes."""
        return keys_of([self._notes[name] for name in self._notes])

    def _has(self, seed):
        return isinstance(seed, str) and seed in self._weights

    def weight(self, seed):
        """The weight of a seed."""
        if not self._has(seed):
            raise UnknownSeed(seed)
        return self._weights[seed]

    def note(self, seed):
        """The note of a seed."""
        if not self._has(seed):
            raise UnknownSeed(seed)
        return self._notes[seed]

    def walk(self):
        """The tuples (name, weight, note) of the seeds, in sequence."""
        for name in self._weights:
            yield name, self._weights[name], self._notes[name]

    def shows(self, seed, table):
        """What the note of a seed shows for a table."""
        if not self._has(seed):
            raise UnknownSeed(seed)
        return self._notes[seed].shows(table)

    @property
    def is_plain(self):
        """Whether all notes are plain."""
        return all([self._notes[name].is_plain for name in self._notes])

    def __len__(self):
        return len(self._weights)

    def merged(self, other):
        """The sketch whose seeds have the sums of both sketches."""
        for name in self._weights:
            if name not in other.seeds() or other.weight(name) != self._weights[name]:
                raise OtherSeeds(name)
        return Sketch([(name, weight, note + other.note(name)) for name, weight, note in self.walk()])

    def paired(self, other):
        """The sketch with a seed for each pair of seeds."""
        pairs = [(one, two) for one in self._weights for two in other.seeds()]
        weights = [self._weights[one] * other.weight(two) for one, two in pairs]
        notes = [self._notes[one] + other.note(two) for one, two in pairs]
        return Sketch([(f"s{at}", weights[at], notes[at]) for at in range(len(pairs))])

    def copies(self, many):
        """The sketch paired with itself until it stands so many times."""
        if not is_integer(many) or many < 1:
            raise InvalidCount(many)
        check_copies(self, many)
        found = self
        # More than eight copies are within the limits only for one seed without sums; they are like two.
        for _ in range(min(many, SUMS) - 1):
            found = found.paired(self)
        return found

    def only(self, seeds):
        """The sketch without the other seeds."""
        if not isinstance(seeds, (list, tuple)):
            raise InvalidSeeds(None)
        if len(seeds) == 0:
            raise InvalidSeeds(0)
        kept = {}
        for position, seed in enumerate(seeds):
            if not self._has(seed):
                raise UnknownSeed(seed)
            if seed in kept:
                raise InvalidSeeds(position)
            kept[seed] = self._weights[seed]
        left = Ratio(0)
        for seed in kept:
            left = left + kept[seed]
        return Sketch([(name, weight.over(left), note) for name, weight, note in self.walk() if name in kept])

    def through(self, rows):
        """The sketch that has for each seed its note through a list of multiples."""
        if not isinstance(rows, dict) or len(rows) != len(self._weights):
            raise InvalidSeeds(None)
        if not all([name in rows for name in self._weights]):
            raise InvalidSeeds(None)
        return Sketch([(name, weight, note.through(rows[name])) for name, weight, note in self.walk()])

    def renamed(self, names):
        """The sketch with new names for some keys; keys can become one."""
        return Sketch([(name, weight, note.renamed(names)) for name, weight, note in self.walk()])

    def __eq__(self, other):
        if not isinstance(other, Sketch) or self.seeds() != other.seeds():
            return False
        return self._weights == other._weights and self._notes == other._notes

    def __repr__(self):
        seeds = [(name, self._weights[name], self._notes[name]) for name in self._weights]
        return f"Sketch({seeds!r})"
