"""How far off the answers of a rule are."""

from notesums.errors import InvalidTable, InvalidTables
from notesums.formulas import put_sums, shifted
from notesums.grids import is_weighted
from notesums.questions import Question
from notesums.ratios import Ratio
from notesums.rules import Rule, answers_of, check_rule, mean_of
from notesums.sketches import check_copies
from notesums.tables import Table


def check_table(value):
    """Raises InvalidTable unless a value is a Table."""
    if not isinstance(value, Table):
        raise InvalidTable(value)


def check_weighted(value):
    """Raises InvalidTables unless a value is a list, not empty, of tuples (table, NUMBER above 0)."""
    if not isinstance(value, (list, tuple)) or len(value) == 0:
        raise InvalidTables(None)
    for position, pair in enumerate(value):
        if not is_weighted(pair):
            raise InvalidTables(position)


def spread_question(sketch, rule):
    """The spread of a rule at each table, as a question."""
    mean = mean_of(sketch, rule)
    found = Question()
    for name, weight, note in sketch.walk():
        answer = put_sums(rule.formula(name), note.questions())
        found = found + answer * answer * weight
    return found - mean * mean


def spread_of(sketch, rule, table):
    """The spread at a table, for a rule of the sketch."""
    answers = answers_of(sketch, rule, table)
    squares, mean = Ratio(0), Ratio(0)
    for name, weight, _ in sketch.walk():
        squares = squares + weight * answers[name] * answers[name]
        mean = mean + weight * answers[name]
    return squares - mean * mean


def spread_at(sketch, rule, table):
    """The spread of a rule at a table."""
    check_rule(sketch, rule)
    check_table(table)
    return spread_of(sketch, rule, table)


def spread_over(sketch, rule, tables):
    """The sum of the spreads of a rule at weighted tables."""
    check_rule(sketch, rule)
    check_weighted(tables)
    found = Ratio(0)
    for table, weight in tables:
        found = found + spread_of(sketch, rule, table) * weight
    return found


def spread_rule(sketch, rule):
    """The rule for two copies of the sketch that answers the spread question of a rule."""
    check_rule(sketch, rule)
    check_copies(sketch, 2)
    formulas = {}
    for first in sketch.seeds():
        one = rule.formula(first)
        for second in sketch.seeds():
            other = shifted(rule.formula(second), len(sketch.note(second)), len(sketch.note(first)))
            formulas[f"s{len(formulas)}"] = one * one - one * other
    return Rule(formulas)


def is_steady(sketch, rule, table):
    """Whether the formulas of all seeds have the same value at a table."""
    check_rule(sketch, rule)
    check_table(table)
    answers = answers_of(sketch, rule, table)
    first = answers[sketch.seeds()[0]]
    return all([answers[name] == first for name in answers])
