"""What a sketch can answer, and the rules for it."""

from notesums.errors import InvalidCount
from notesums.limits import DEGREE, KEYS, check_degree, check_formulas, check_many, checked_keys, keys_of
from notesums.ratios import Ratio, is_integer
from notesums.reach import base_of, plain_rows, plain_sums, reach, reaching_formulas, unreached_degrees
from notesums.rules import Rule
from notesums.zeros import places_up_to, rule_of_numbers, zero_lines


def rows_of(sketch):
    """The rows of all notes of a sketch."""
    return [plain_rows(note) for _, _, note in sketch.walk()]


def can_answer(sketch, question):
    """Whether some rule for the sketch answers the question."""
    keys = checked_keys(sketch, [question])
    return unreached_degrees(rows_of(sketch), keys, question) == []


def rule_for(sketch, question):
    """A rule with formulas of at most the degree of the question that answers it, or None."""
    keys = checked_keys(sketch, [question])
    named = [(name, plain_sums(note)) for name, _, note in sketch.walk()]
    formulas = reaching_formulas(named, keys, question)
    if formulas is None:
        return None
    one = Ratio(1)
    return Rule({name: formulas[name] * one.over(sketch.weight(name)) for name in formulas})


def failing_degrees(sketch, question):
    """The sorted list of the degrees whose part cannot be answered."""
    keys = checked_keys(sketch, [question])
    return unreached_degrees(rows_of(sketch), keys, question)


def check_count(value):
    """Raises InvalidCount unless a value is a COUNT."""
    if not is_integer(value) or value < 0:
        raise InvalidCount(value)


def answer_base(sketch, degree):
    """The base of the answered questions of a degree."""
    check_count(degree)
    keys = sketch.used_keys()
    check_degree(keys, degree, DEGREE)
    return base_of(reach(rows_of(sketch), keys, degree), keys, degree)


def remainder(sketch, question):
    """The question, up to what can be answered, without the first products of the bases."""
    keys = checked_keys(sketch, [question])
    rows = rows_of(sketch)
    found = question
    for degree in question.parts():
        for answered in base_of(reach(rows, keys, degree), keys, degree):
            # No other question of the base has the first product, so its weight is still that of the question.
            _, first = answered.terms()[0]
            found = found - answered * question.weight(first)
    return found


def zero_base(sketch, degree):
    """Rules of nothing from which all with formulas of at most a degree come in just one way."""
    check_count(degree)
    check_degree(sketch.used_keys(), degree, DEGREE)
    check_formulas([note for _, _, note in sketch.walk()], degree)
    places = places_up_to(sketch, degree)
    return [rule_of_numbers(sketch, places, line) for line in zero_lines(sketch, degree)]


def lies_in(note, other):
    """Whether all rows of a note are sums of multiples of those of the other one."""
    return all([other.has(row) for row in note.rows()])


def unmatched_seeds(one, other):
    """The seeds of the second sketch whose rows come from those of no seed of the first one."""
    check_many("keys", KEYS, len(keys_of([one, other])))
    notes = [note for _, _, note in one.walk()]
    found = []
    for name, _, note in other.walk():
        if not any([lies_in(note, greater) for greater in notes]):
            found.append(name)
    return found


def answers_as_much(one, other):
    """Whether the first sketch can answer each question that the second one can."""
    return unmatched_seeds(one, other) == []
