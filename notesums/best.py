"""Rules with the least spread over some tables."""

from notesums.answers import check_count, rule_for
from notesums.errors import NotAnswered
from notesums.grids import whole_weights
from notesums.limits import KEYS, check_degree, check_formulas, check_many, keys_of
from notesums.polynomials import worth
from notesums.questions import common_bottom
from notesums.ratios import Ratio
from notesums.rules import answers_of, check_rule
from notesums.spans import combination
from notesums.spreads import check_weighted, spread_over
from notesums.zeros import numbers_of_rule, places_up_to, rule_of_numbers, zero_lines

DEGREE = 2


def check_best(sketch, questions, degree):
    """Raises TooMany for too many keys, degrees, products and formulas."""
    keys = keys_of([sketch, *questions])
    check_many("keys", KEYS, len(keys))
    check_degree(keys, max([degree] + [question.degree for question in questions]), DEGREE)
    check_formulas([note for _, _, note in sketch.walk()], degree)


def right_angle(sketch, one, other, tables):
    """The sum over tables and seeds of the weights times the values of both formulas."""
    check_rule(sketch, one)
    check_rule(sketch, other)
    check_weighted(tables)
    found = Ratio(0)
    for table, many in tables:
        left, right = answers_of(sketch, one, table), answers_of(sketch, other, table)
        for name, weight, _ in sketch.walk():
            found = found + weight * many * left[name] * right[name]
    return found


def dot(one, other):
    """The sum of the products of the numbers of two lines."""
    return sum([left * right for left, right in zip(one, other)])


def values_at(sketch, places, tables):
    """For each place the values of its product of shown numbers at tables, as a line."""
    shown = {}
    for name, _, note in sketch.walk():
        rows = [note.shows(table) for table, _ in tables]
        shown[name] = [{position: row[position] for position in range(len(row))} for row in rows]
    return [[worth(positions, numbers) for numbers in shown[name]] for name, positions in places]


def right_angles(sketch, places, tables):
    """For two places, times the same number for all of them, the right angle of the rules with 1 at the one."""
    whole, _ = whole_weights(tables)
    bottom = common_bottom([Ratio(1).over(weight) for _, weight, _ in sketch.walk()])
    # The numbers at the places have the weight of the seed in them already, each of the two of them.
    scales = {name: Ratio(bottom).over(weight).top for name, weight, _ in sketch.walk()}
    lines = values_at(sketch, places, tables)
    found = []
    for (name, _), line in zip(places, lines):
        scaled = [scales[name] * many * number for (_, many), number in zip(whole, line)]
        found.append([dot(scaled, other) if place[0] == name else 0 for place, other in zip(places, lines)])
    return found


def angles_to_zeros(sketch, places, tables, zeros):
    """For each rule of nothing a line whose product with the numbers of a rule is their right angle."""
    angles = right_angles(sketch, places, tables)
    return [[dot(row, zero) for row in angles] for zero in zeros]


def whole_numbers(numbers):
    """Ratios, times what makes them integers, and this number."""
    bottom = common_bottom(numbers)
    return [number.top * (bottom // number.bottom) for number in numbers], bottom


def least_numbers(sketch, places, tables, numbers, zeros):
    """The numbers of a rule with rules of nothing added so that it is at right angles to all of them."""
    whole, bottom = whole_numbers(numbers)
    lines = angles_to_zeros(sketch, places, tables, zeros)
    solved = combination([[dot(line, zero) for line in lines] for zero in zeros], [-dot(line, whole) for line in lines])
    found = [Ratio(number) for number in whole]
    for many, zero in zip(solved, zeros):
        found = [one + many * other for one, other in zip(found, zero)]
    return [number.over(bottom) for number in found]


def least_spread(sketch, question, tables, degree):
    """The tuple of the least spread over the tables and a rule that has it."""
    check_weighted(tables)
    check_count(degree)
    check_best(sketch, [question], degree)
    rule = rule_for(sketch, question)
    if question.degree > degree or rule is None:
        raise NotAnswered(question)
    places = places_up_to(sketch, degree)
    numbers = numbers_of_rule(sketch, places, rule)
    least = least_numbers(sketch, places, tables, numbers, zero_lines(sketch, degree))
    found = rule_of_numbers(sketch, places, least)
    return spread_over(sketch, found, tables), found


def has_least_spread(sketch, rule, tables, degree):
    """Whether no rule of at most the degree with the same mean has less spread over the tables."""
    check_rule(sketch, rule)
    check_weighted(tables)
    check_count(degree)
    check_best(sketch, [], degree)
    if rule.degree > degree:
        return False
    places = places_up_to(sketch, degree)
    whole, _ = whole_numbers(numbers_of_rule(sketch, places, rule))
    lines = angles_to_zeros(sketch, places, tables, zero_lines(sketch, degree))
    return all([dot(line, whole) == 0 for line in lines])
