"""Which seeds are enough for a question, and which seeds, sums and keys it needs."""

from itertools import combinations

from notesums.answers import rows_of
from notesums.limits import check_many, checked_keys
from notesums.reach import Reached, degrees_of, reached_by_others, rows_of_sums, unreached_degrees

SEEDS = 8


def is_enough(sketch, question, seeds):
    """Whether the question can be answered by only these seeds."""
    fewer = sketch.only(seeds)
    keys = checked_keys(sketch, [question])
    return unreached_degrees(rows_of(fewer), keys, question) == []


def sets_of_seeds(names):
    """All sets of the names but the empty one, ordered by length and then as tuples."""
    ordered = sorted(names)
    return [seeds for size in range(1, len(ordered) + 1) for seeds in combinations(ordered, size)]


def smaller_sets(seeds):
    """The sets with one seed less."""
    return [seeds[:at] + seeds[at + 1:] for at in range(len(seeds))]


def greater_sets(seeds, names):
    """The sets with one more of the names."""
    return [tuple(sorted([*seeds, name])) for name in names if name not in seeds]


def judged_sets(sketch, question):
    """The dict from all sets of seeds, ordered, to whether they are enough."""
    keys = checked_keys(sketch, [question])
    check_many("seeds", SEEDS, len(sketch))
    rows = {name: sums for name, sums in zip(sketch.seeds(), rows_of(sketch))}
    reached = {(): Reached(keys, degrees_of([question]))}
    found = {}
    for seeds in sets_of_seeds(sketch.seeds()):
        if any([found.get(smaller, False) for smaller in smaller_sets(seeds)]):
            found[seeds] = True
        else:
            # The set without its last seed is not enough, so it was gone through as well.
            more = reached[seeds[:-1]].twin()
            more.take(rows[seeds[-1]])
            reached[seeds] = more
            found[seeds] = more.has_all([question])
    return found


def least_sets(sketch, question):
    """All sets of seeds that are enough while no smaller one within them is."""
    found = judged_sets(sketch, question)
    enough = [seeds for seeds in found if found[seeds]]
    return [seeds for seeds in enough if not any([found.get(smaller, False) for smaller in smaller_sets(seeds)])]


def greatest_sets(sketch, question):
    """All sets of seeds that are not enough while each greater one that contains them is."""
    found = judged_sets(sketch, question)
    names = sketch.seeds()
    missing = [seeds for seeds in found if not found[seeds]]
    return [seeds for seeds in missing if all([found[greater] for greater in greater_sets(seeds, names)])]


def needed_seeds(sketch, question):
    """The sorted list of the seeds that each set has that is enough."""
    keys = checked_keys(sketch, [question])
    rows = rows_of(sketch)
    if unreached_degrees(rows, keys, question) != []:
        return []
    if len(sketch) == 1:
        # No seed at all is no set, even if nothing needs to be shown.
        return sketch.seeds()
    others = reached_by_others(rows, keys, degrees_of([question]))
    return sorted([name for name, rest in zip(sketch.seeds(), others) if not rest.has_all([question])])


def needed_positions(sums, others, keys, question):
    """The positions of the sums of a note without which it, with the others, does not answer the question."""
    if others.has_all([question]):
        return []
    found = []
    for position in range(len(sums)):
        reached = others.twin()
        reached.take(rows_of_sums(sums[:position] + sums[position + 1:], keys))
        if not reached.has_all([question]):
            found.append(position)
    return found


def needed_sums(sketch, question):
    """The list of the sums, as tuples (seed, position), without which the question cannot be answered."""
    keys = checked_keys(sketch, [question])
    rows = rows_of(sketch)
    if unreached_degrees(rows, keys, question) != []:
        return []
    others = reached_by_others(rows, keys, degrees_of([question]))
    found = []
    for (name, _, note), rest in zip(sketch.walk(), others):
        found.extend([(name, position) for position in needed_positions(note.sums(), rest, keys, question)])
    return found


def rows_without_key(sketch, key, keys):
    """The rows of all notes, without the sums in which a key has an integer other than 0."""
    return [rows_of_sums([row for row in note.sums() if key not in row], keys) for _, _, note in sketch.walk()]


def needed_keys(sketch, question):
    """The sorted list of the keys without whose sums the question cannot be answered."""
    keys = checked_keys(sketch, [question])
    if unreached_degrees(rows_of(sketch), keys, question) != []:
        return []
    used = sketch.used_keys()
    return [key for key in used if unreached_degrees(rows_without_key(sketch, key, keys), keys, question) != []]
