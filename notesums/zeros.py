"""Rules as lists of numbers, one for each place: a seed and a product of positions of its note.

The numbers are the weights in the formula times the weight of the seed, so that they add up to the mean.
"""

from notesums.formulas import formula_of, position_keys
from notesums.polynomials import products_of
from notesums.ratios import Ratio
from notesums.reach import line_of, plain_sums, products_of_sums
from notesums.rules import Rule
from notesums.spans import relations


def places_of_degree(sketch, degree):
    """The list of the places (seed, positions) with products of just a degree."""
    found = []
    for name, _, note in sketch.walk():
        found.extend([(name, positions) for positions in products_of(list(range(len(note))), degree)])
    return found


def places_up_to(sketch, most):
    """The list of the places with products of at most a degree, by degrees."""
    return [place for degree in range(most + 1) for place in places_of_degree(sketch, degree)]


def rule_of_numbers(sketch, places, numbers):
    """The rule with these numbers at these places."""
    terms = {name: [] for name in sketch.seeds()}
    for (name, positions), number in zip(places, numbers):
        terms[name].append((Ratio(1).over(sketch.weight(name)) * number, positions))
    return Rule({name: formula_of(terms[name]) for name in terms})


def numbers_of_rule(sketch, places, rule):
    """The Ratios of a rule at these places."""
    weights = {}
    for name, weight, note in sketch.walk():
        known = position_keys(len(note))
        for number, product in rule.formula(name).terms():
            weights[(name, tuple([known[key] for key in product]))] = number * weight
    return [weights.get(place, Ratio(0)) for place in places]


def lines_of_degree(sketch, degree):
    """For each place of a degree what its product of sums is multiplied out."""
    products = products_of(sketch.used_keys(), degree)
    found = []
    for _, _, note in sketch.walk():
        sums = products_of_sums(plain_sums(note), degree)
        found.extend([line_of(sums[positions], products) for positions in sums])
    return found


def zero_lines(sketch, most):
    """Lists of integers at `places_up_to` from which all rules of nothing come in just one way."""
    many = len(places_up_to(sketch, most))
    found, begin = [], 0
    for degree in range(most + 1):
        lines = lines_of_degree(sketch, degree)
        width = len(products_of(sketch.used_keys(), degree))
        for relation in relations(lines, width):
            found.append([0] * begin + relation + [0] * (many - begin - len(lines)))
        begin = begin + len(lines)
    return found
