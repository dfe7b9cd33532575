"""How far off the answers of a rule are."""

from math import lcm

from notesums.errors import InvalidTables
from notesums.formulas import position_key, put_sums, shifted
from notesums.grids import is_weighted
from notesums.polynomials import worth
from notesums.questions import Question, bottom_of, common_bottom, tops_of
from notesums.ratios import Ratio, as_ratio
from notesums.rules import Rule, answers_of, check_rule, mean_of
from notesums.sketches import check_copies


def check_weighted(value):
    """Raises InvalidTables unless a value is a list, not empty, of tuples (table, NUMBER above 0)."""
    if not isinstance(value, (list, tuple)) or len(value) == 0:
        raise InvalidTables(None)
    for position, pair in enumerate(value):
        if not is_weighted(pair):
            raise InvalidTables(position)


def spread_question(sketch, rule):
    """The spread of a rule at each table, as a question."""
    mean = mean_of(sketch, rule)
    found = Question()
    for name, weight, note in sketch.walk():
        answer = put_sums(rule.formula(name), note.questions())
        found = found + answer * answer * weight
    return found - mean * mean


def whole_parts(sketch, rule, many, bottom):
    """The tuples (weight times many, weights of the formula times bottom, note) of all seeds; both are integers."""
    found = []
    for name, weight, note in sketch.walk():
        found.append(((weight * many).top, tops_of(rule.formula(name) * bottom), note))
    return found


def answer_of(tops, shown):
    """The value of the weights of a formula for what is shown."""
    numbers = {position_key(position): shown[position] for position in range(len(shown))}
    return sum([tops[product] * worth(product, numbers) for product in tops])


def spread_of(sketch, rule, pairs):
    """The sum of the spreads at weighted tables, for a rule of the sketch; InvalidTable for what is no table."""
    many = common_bottom([weight for _, weight, _ in sketch.walk()])
    bottom = 1
    for name in rule.seeds():
        bottom = lcm(bottom, bottom_of(rule.formula(name)))
    # Integers until the end: in a Ratio great numbers would be divided again and again.
    parts = whole_parts(sketch, rule, many, bottom)
    found = Ratio(0)
    for table, times in pairs:
        answers = [(weight, answer_of(tops, note.shows(table))) for weight, tops, note in parts]
        squares = sum([weight * answer * answer for weight, answer in answers])
        mean = sum([weight * answer for weight, answer in answers])
        found = found + as_ratio(times) * (many * squares - mean * mean)
    return found.over(many * many * bottom * bottom)


def spread_at(sketch, rule, table):
    """The spread of a rule at a table."""
    check_rule(sketch, rule)
    return spread_of(sketch, rule, [(table, 1)])


def spread_over(sketch, rule, tables):
    """The sum of the spreads of a rule at weighted tables."""
    check_rule(sketch, rule)
    check_weighted(tables)
    return spread_of(sketch, rule, tables)


def spread_rule(sketch, rule):
    """The rule for two copies of the sketch that answers the spread question of a rule."""
    check_rule(sketch, rule)
    check_copies(sketch, 2)
    formulas = {}
    for first in sketch.seeds():
        one = rule.formula(first)
        for second in sketch.seeds():
            other = shifted(rule.formula(second), len(sketch.note(second)), len(sketch.note(first)))
            formulas[f"s{len(formulas)}"] = one * one - one * other
    return Rule(formulas)


def is_steady(sketch, rule, table):
    """Whether the formulas of all seeds have the same value at a table."""
    check_rule(sketch, rule)
    answers = answers_of(sketch, rule, table)
    first = answers[sketch.seeds()[0]]
    return all([answers[name] == first for name in answers])
