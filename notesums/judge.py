"""Claims, their certificates, and a judge who checks certificates without searching."""

from notesums.answers import lies_in, rule_for, unmatched_seeds
from notesums.best import check_best, has_least_spread, least_spread
from notesums.boxes import box_rule, checked_tables, is_box, is_box_rule
from notesums.copies import checked_for_copies, copies_rule, copies_twins, is_copies_rule, is_copies_twins
from notesums.copies import is_set_of_seeds
from notesums.errors import InvalidClaim, NotAnswered, TooMany
from notesums.grids import is_weighted
from notesums.limits import KEYS, check_many, checked_keys, keys_of
from notesums.moments import is_moment_twins, moment_twins
from notesums.questions import Question
from notesums.ratios import Ratio, is_integer
from notesums.rules import is_rule
from notesums.sketches import Sketch
from notesums.spreads import spread_over
from notesums.twins import exact_twins, is_twins

KINDS = (
    "answered", "not answered", "on the box", "not on the box", "by copies", "more copies", "enough", "not enough",
    "least spread", "as much",
)


def is_count(value):
    """Whether any value is a COUNT."""
    return is_integer(value) and value >= 0


def are_asked(sketch, question):
    """Whether any two values are a sketch and a question."""
    return isinstance(sketch, Sketch) and isinstance(question, Question)


def fits_asking(sketch, question):
    """Whether any values can be told of an answer; like all of these functions, TooMany beyond the limits."""
    if not are_asked(sketch, question):
        return False
    checked_keys(sketch, [question])
    return True


def fits_box(sketch, question, box):
    """Whether any values can be told of an answer on a box."""
    if not are_asked(sketch, question) or not is_box(box):
        return False
    checked_tables(sketch, question, box)
    return True


def fits_copies(sketch, question, many):
    """Whether any values can be told of an answer by copies."""
    if not are_asked(sketch, question) or not is_count(many):
        return False
    checked_for_copies(sketch, question)
    return True


def fits_seeds(sketch, question, seeds):
    """Whether any values can be told of an answer by a set of seeds."""
    return fits_asking(sketch, question) and is_set_of_seeds(sketch, seeds) and len(seeds) > 0


def fits_spread(sketch, question, tables, degree, value):
    """Whether any values can be told of a least spread."""
    if not are_asked(sketch, question) or not is_count(degree) or not isinstance(value, Ratio):
        return False
    if not isinstance(tables, (list, tuple)) or len(tables) == 0 or not all([is_weighted(pair) for pair in tables]):
        return False
    check_best(sketch, [question], degree)
    return True


def fits_sketches(sketch, other):
    """Whether any values are two sketches that can be compared."""
    if not isinstance(sketch, Sketch) or not isinstance(other, Sketch):
        return False
    check_many("keys", KEYS, len(keys_of([sketch, other])))
    return True


def has_form(kind, parts):
    """Whether any value is a kind of claim, and the parts are right for it."""
    match kind:
        case "answered" | "not answered":
            return len(parts) == 2 and fits_asking(*parts)
        case "on the box" | "not on the box":
            return len(parts) == 3 and fits_box(*parts)
        case "by copies" | "more copies":
            return len(parts) == 3 and fits_copies(*parts)
        case "enough" | "not enough":
            return len(parts) == 3 and fits_seeds(*parts)
        case "least spread":
            return len(parts) == 5 and fits_spread(*parts)
        case "as much":
            return len(parts) == 2 and fits_sketches(*parts)
        case _:
            return False


def is_claim(value):
    """Whether any value is a CLAIM."""
    if not isinstance(value, tuple) or len(value) == 0:
        return False
    try:
        return has_form(value[0], value[1:])
    except TooMany:
        return False


def check_claim(value):
    """Raises InvalidClaim unless a value is a CLAIM."""
    if not is_claim(value):
        raise InvalidClaim(value)


def is_in_box(stack, box):
    """Whether all tables of a stack are tables of a box."""
    counts = [table.counts() for table, _ in stack]
    return all([numbers[key] <= box.get(key, 0) for numbers in counts for key in numbers])


def is_twins_in_box(sketch, question, box, value):
    """Whether any value is exact twins whose tables are all in the box."""
    return is_twins(sketch, question, value) and is_in_box(value[0], box) and is_in_box(value[1], box)


def has_spread(sketch, question, tables, degree, least, value):
    """Whether any value is a rule of at most the degree for the question that has this spread, and the least one."""
    if not is_rule(sketch, question, value) or spread_over(sketch, value, tables) != least:
        return False
    return has_least_spread(sketch, value, tables, degree)


def are_greater_seeds(sketch, other, value):
    """Whether any value is a tuple with a seed of the sketch for each seed of the other one, whose rows it reaches."""
    if not isinstance(value, tuple) or len(value) != len(other):
        return False
    if not all([seed in sketch.seeds() for seed in value]):
        return False
    return all([lies_in(note, sketch.note(seed)) for (_, _, note), seed in zip(other.walk(), value)])


def is_certificate(claim, value):
    """Whether any value is a certificate of the claim."""
    check_claim(claim)
    parts = claim[1:]
    match claim[0]:
        case "answered":
            return is_rule(*parts, value)
        case "not answered":
            return is_moment_twins(*parts, value)
        case "on the box":
            return is_box_rule(*parts, value)
        case "not on the box":
            return is_twins_in_box(*parts, value)
        case "by copies":
            return is_copies_rule(*parts, value)
        case "more copies":
            return is_copies_twins(*parts, value)
        case "enough":
            return is_rule(claim[1].only(claim[3]), claim[2], value)
        case "not enough":
            return is_moment_twins(claim[1].only(claim[3]), claim[2], value)
        case "least spread":
            return has_spread(*parts, value)
        case _:
            return are_greater_seeds(*parts, value)


def rule_of_spread(sketch, question, tables, degree, least):
    """A rule with this spread, if it is the least one, or None."""
    try:
        found, rule = least_spread(sketch, question, tables, degree)
    except NotAnswered:
        return None
    return rule if found == least else None


def greater_seeds(sketch, other):
    """The tuple with a seed of the sketch for each seed of the other one, whose rows it reaches, or None."""
    if unmatched_seeds(sketch, other) != []:
        return None
    found = []
    for _, _, note in other.walk():
        found.append([name for name, _, greater in sketch.walk() if lies_in(note, greater)][0])
    return tuple(found)


def certificate_of(claim):
    """A certificate of the claim, or None if it is not true."""
    check_claim(claim)
    parts = claim[1:]
    match claim[0]:
        case "answered":
            return rule_for(*parts)
        case "not answered":
            return moment_twins(*parts)
        case "on the box":
            return box_rule(*parts)
        case "not on the box":
            return exact_twins(claim[1], claim[2], box=claim[3])
        case "by copies":
            return copies_rule(*parts)
        case "more copies":
            return copies_twins(*parts)
        case "enough":
            return rule_for(claim[1].only(claim[3]), claim[2])
        case "not enough":
            return moment_twins(claim[1].only(claim[3]), claim[2])
        case "least spread":
            return rule_of_spread(*parts)
        case _:
            return greater_seeds(*parts)
