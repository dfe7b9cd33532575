"""Renamings that keep a sketch, and questions averaged over renamings."""

from itertools import permutations

from notesums.errors import InvalidRenaming
from notesums.names import maps_names
from notesums.questions import Question
from notesums.ratios import Ratio
from notesums.spans import span_of


def is_one_to_one(value):
    """Whether any value is a dict from KEYS to as many different KEYS."""
    return maps_names(value) and len(set([value[key] for key in value])) == len(value)


def check_renaming(sketch, renaming):
    """Raises InvalidRenaming unless a value is a dict from all keys of the sketch to all of them, one to one."""
    keys = sketch.used_keys()
    if not is_one_to_one(renaming) or sorted(list(renaming)) != keys:
        raise InvalidRenaming(renaming)
    if sorted([renaming[key] for key in renaming]) != keys:
        raise InvalidRenaming(renaming)


def worth_of(sums, keys):
    """The reduced rows of sums, which two notes have in common exactly if they are worth the same."""
    span = span_of([[row.get(key, 0) for key in keys] for row in sums], len(keys))
    return tuple([tuple(span.row(lead)) for lead in span.leads()])


def seeds_by_worth(sketch):
    """The dict from the weights and worths of notes to the seeds that have them, in sequence."""
    keys = sketch.used_keys()
    found = {}
    for name, weight, note in sketch.walk():
        worth = (weight.top, weight.bottom, worth_of(note.sums(), keys))
        found.setdefault(worth, []).append(name)
    return found


def matched(sketch, known, renaming):
    """The dict from each seed to one that is worth the same as its renamed note, or None; known is by worth."""
    keys = sketch.used_keys()
    left = {worth: list(known[worth]) for worth in known}
    found = {}
    for name, weight, note in sketch.walk():
        sums = [{renaming[key]: row[key] for key in row} for row in note.sums()]
        worth = (weight.top, weight.bottom, worth_of(sums, keys))
        if left.get(worth, []) == []:
            return None
        found[name] = left[worth].pop(0)
    return {name: found[name] for name in sorted(list(found))}


def matching(sketch, renaming):
    """The dict from each seed to the seed with which its renamed note is matched, or None."""
    check_renaming(sketch, renaming)
    return matched(sketch, seeds_by_worth(sketch), renaming)


def keeps(sketch, renaming):
    """Whether a renaming keeps the sketch."""
    return matching(sketch, renaming) is not None


def renamings(sketch):
    """The list of the renamings that keep the sketch, in order."""
    known = seeds_by_worth(sketch)
    keys = sketch.used_keys()
    ways = [{key: new for key, new in zip(keys, way)} for way in permutations(keys)]
    return [renaming for renaming in ways if matched(sketch, known, renaming) is not None]


def renamings_of(sketch, question):
    """The list of the renamings that keep the sketch and the question, in order."""
    return [renaming for renaming in renamings(sketch) if question.renamed(renaming) == question]


def averaged(question, group):
    """The sum of the renamed questions, divided by the number of the renamings."""
    if not isinstance(group, (list, tuple)) or len(group) == 0:
        raise InvalidRenaming(group)
    for renaming in group:
        if not is_one_to_one(renaming):
            raise InvalidRenaming(renaming)
    total = Question()
    for renaming in group:
        total = total + question.renamed(renaming)
    return total * Ratio(1, len(group))
