"""Made sketches: samples, signs, buckets and signed buckets, and sketches of given notes."""

from itertools import combinations
from math import comb

from notesums.errors import InvalidCount, InvalidKeys, InvalidSeeds
from notesums.limits import SEEDS, SUMS, check_many
from notesums.notes import Note
from notesums.questions import is_list_of_names
from notesums.ratios import Ratio, is_integer
from notesums.sketches import Sketch


def ordered_keys(keys):
    """The sorted list of different KEYS, at least one; InvalidKeys for any other value."""
    if not is_list_of_names(keys) or len(keys) == 0 or len(set(keys)) != len(keys):
        raise InvalidKeys(keys)
    return sorted(keys)


def check_from_one(many):
    """Raises InvalidCount unless a value is an INTEGER from 1 on."""
    if not is_integer(many) or many < 1:
        raise InvalidCount(many)


def made(weights, notes):
    """The sketch with the seeds s0, s1, .."""
    return Sketch([(f"s{at}", weights[at], notes[at]) for at in range(len(notes))])


def sample(keys, many):
    """A seed for each set of so many of the keys, which are its sums."""
    ordered = ordered_keys(keys)
    check_from_one(many)
    if many > len(ordered):
        raise InvalidCount(many)
    # Counted ahead, since there can be more sets than could ever be made.
    check_many("sums", SUMS, many)
    check_many("seeds", SEEDS, comb(len(ordered), many))
    notes = [Note.of_keys(*some) for some in combinations(ordered, many)]
    return made([Ratio(1, len(notes))] * len(notes), notes)


def block_count(blocks):
    """The number of the blocks of a partition, or of the beginning of one."""
    return max(blocks, default=-1) + 1


def partitions(keys, most):
    """All partitions of the keys into at most so many blocks, in order; TooMany as for a seed for each of them.

    A partition is the tuple that has for each key the position of its block.
    """
    check_many("sums", SUMS, min(len(keys), most))
    found = [()]
    for _ in keys:
        # A key is thrown into a block that is there already, or into a new one.
        found = [(*blocks, at) for blocks in found for at in range(min(most, block_count(blocks) + 1))]
        check_many("seeds", SEEDS, len(found))
    return found


def bucket_weight(blocks, many):
    """Of all ways to throw the keys into so many buckets, the part that makes a partition."""
    top, bottom = 1, 1
    for taken in range(block_count(blocks)):
        top = top * (many - taken)
    for _ in blocks:
        bottom = bottom * many
    return Ratio(top, bottom)


def block_note(keys, blocks, signs_of_keys):
    """The note with a sum for each block, in which the keys have their signs."""
    sums = [{} for _ in range(block_count(blocks))]
    for key, block, sign in zip(keys, blocks, signs_of_keys):
        sums[block][key] = sign
    return Note(sums)


def sign_ways(blocks):
    """All ways to give the keys signs in which the first key of each block has 1, the greatest first."""
    found = [()]
    for place in range(len(blocks)):
        choice = (1, -1) if blocks[place] in blocks[:place] else (1,)
        found = [(*way, sign) for way in found for sign in choice]
    return found


def buckets(keys, many):
    """A seed for each partition of the keys into at most so many blocks, with a sum for each block."""
    ordered = ordered_keys(keys)
    check_from_one(many)
    found = partitions(ordered, many)
    weights = [bucket_weight(blocks, many) for blocks in found]
    return made(weights, [block_note(ordered, blocks, [1] * len(ordered)) for blocks in found])


def signed_buckets(keys, many):
    """The seeds of the buckets, each with all ways to give the keys signs."""
    ordered = ordered_keys(keys)
    check_from_one(many)
    found = partitions(ordered, many)
    # The first key of each block has no choice.
    check_many("seeds", SEEDS, sum([1 << (len(ordered) - block_count(blocks)) for blocks in found]))
    weights, notes = [], []
    for blocks in found:
        ways = sign_ways(blocks)
        weights.extend([bucket_weight(blocks, many).over(len(ways))] * len(ways))
        notes.extend([block_note(ordered, blocks, way) for way in ways])
    return made(weights, notes)


def signs(keys):
    """A seed for each way to give the keys signs in which the first one has 1, with a single sum."""
    # With a single bucket, there is nothing but the signs.
    return signed_buckets(keys, 1)


def weighted(*notes, **weights):
    """The sketch whose seeds are the keywords, sorted, with these weights, and with the notes in their sequence."""
    if len(notes) != len(weights) or not all([isinstance(note, Note) for note in notes]):
        raise InvalidSeeds(None)
    names = sorted(list(weights))
    return Sketch([(names[at], weights[names[at]], notes[at]) for at in range(len(names))])
