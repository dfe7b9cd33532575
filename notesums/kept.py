"""Kept notes: what one seed of a sketch shows for a table that itself is not kept."""

from notesums.errors import InvalidKept, InvalidName, InvalidNumber, InvalidRule, InvalidTables, NoRule
from notesums.formulas import formula_at
from notesums.names import is_name
from notesums.ratios import Ratio, is_integer
from notesums.rules import Rule
from notesums.tables import Table


class Trial:
    """Restores what is shown and the rule of a kept note when a block ends."""

    def __init__(self, kept):
        self._kept = kept
        self._shown_before = ()
        self._rule_before = None

    def __enter__(self):
        self._shown_before = self._kept.shown
        self._rule_before = self._kept.rule
        return self._kept

    def __exit__(self, kind, value, trace):
        kept = self._kept
        kept._shown = self._shown_before
        kept._rule = self._rule_before


class Kept:
    """A seed of a sketch and what its note shows for a table, at first an empty one."""

    def __init__(self, sketch, seed):
        self._note = sketch.note(seed)
        self._sketch = sketch
        self._seed = seed
        self._shown = self._note.shows(Table())
        self._rule = None

    @classmethod
    def of_table(cls, sketch, table):
        """The list of the kept notes of all seeds for a table."""
        found = []
        for seed in sketch.seeds():
            kept = cls(sketch, seed)
            kept.add(table)
            found.append(kept)
        return found

    @property
    def sketch(self):
        return self._sketch

    @property
    def seed(self):
        return self._seed

    @property
    def shown(self):
        """The tuple of the numbers that are shown."""
        return self._shown

    @property
    def rule(self):
        """The rule that is used, None at first."""
        return self._rule

    def use(self, rule):
        """Sets the rule, or takes it away with None."""
        if rule is not None and not (isinstance(rule, Rule) and rule.fits(self._sketch)):
            raise InvalidRule(rule)
        self._rule = rule

    def _show_more(self, numbers):
        self._shown = tuple([one + more for one, more in zip(self._shown, numbers)])

    def change(self, key, number):
        """Adds an INTEGER to the number of a key."""
        if not is_name(key):
            raise InvalidName(key)
        if not is_integer(number):
            raise InvalidNumber(number)
        self.add(Table({key: number}))

    def add(self, table):
        """Adds a whole table."""
        self._show_more(self._note.shows(table))

    def take_in(self, other):
        """Adds the table of another kept note."""
        if not isinstance(other, Kept) or other.seed != self._seed or other.sketch != self._sketch:
            raise InvalidKept(other)
        self._show_more(other.shown)

    def answer(self):
        """The value of the formula for what is shown."""
        if self._rule is None:
            raise NoRule()
        return formula_at(self._rule.formula(self._seed), self._shown)

    def copy(self):
        """Another kept note that is equal and has the same rule."""
        other = Kept(self._sketch, self._seed)
        other._shown = self._shown
        other._rule = self._rule
        return other

    def trial(self):
        """A context manager: what a block changes is taken back when it ends."""
        return Trial(self)

    @staticmethod
    def average(kept):
        """The sum of the weight times the answer, over kept notes of all seeds."""
        if not is_of_all_seeds(kept):
            raise InvalidKept(kept)
        found = Ratio(0)
        for one in kept:
            found = found + one.sketch.weight(one.seed) * one.answer()
        return found

    def __eq__(self, other):
        if not isinstance(other, Kept):
            return False
        return self._seed == other._seed and self._shown == other._shown and self._sketch == other._sketch

    def __repr__(self):
        return f"Kept({self._seed!r}, {self._shown!r})"


def is_of_all_seeds(value):
    """Whether any value is a list of kept notes of all seeds of equal sketches, each once."""
    if not isinstance(value, (list, tuple)) or len(value) == 0:
        return False
    if not all([isinstance(kept, Kept) for kept in value]):
        return False
    sketch = value[0].sketch
    if not all([kept.sketch == sketch for kept in value]):
        return False
    return sorted([kept.seed for kept in value]) == sorted(sketch.seeds())


def check_changes(changes):
    """Raises InvalidTables unless a value is a list of tuples of two values."""
    if not isinstance(changes, (list, tuple)):
        raise InvalidTables(None)
    for position, pair in enumerate(changes):
        if not isinstance(pair, tuple) or len(pair) != 2:
            raise InvalidTables(position)


def tried(kept, changes, *, rule=None):
    """The list of what is shown behind each of some changes, which are taken back, the rule as well."""
    check_changes(changes)
    found = []
    with kept.trial():
        if rule is not None:
            kept.use(rule)
        for key, number in changes:
            kept.change(key, number)
            found.append(kept.shown)
    return found
