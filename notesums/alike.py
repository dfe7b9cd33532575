"""Weighted tables that are alike for notes: finding two lists of them, and judging two.

Notes stand here as lists of their sums, which are sums of products with integers.
"""

from notesums.grids import has_different_tables, is_weighted, small_tables, whole_weights
from notesums.polynomials import products_of, worth
from notesums.questions import tops_of
from notesums.ratios import as_ratio
from notesums.reach import part_line, products_of_sums, reach, unreached_degrees
from notesums.spans import combination, parting


def products_up_to(keys, most):
    """All products of at most a degree, in their order."""
    return [product for degree in range(most + 1) for product in products_of(keys, degree)]


def weights_with_moments(tables, products, moments):
    """The Ratios with which the tables have the moments at the products."""
    lines = []
    for table in tables:
        counts = table.counts()
        lines.append([worth(product, counts) for product in products])
    return combination(lines, moments)


def twins_of(notes, keys, question):
    """Moment twins for the notes with plain tables over the keys, or None."""
    failing = unreached_degrees(notes, keys, question)
    if failing == []:
        return None
    degree = failing[0]
    apart = parting(reach(notes, keys, degree), part_line(question, keys, degree))
    moments = {product: number for product, number in zip(products_of(keys, degree), apart)}
    products = products_up_to(keys, question.degree)
    # There is just one way: as many tables as products, and no question of the degree is 0 at all of them.
    tables = small_tables(keys, question.degree)
    weights = weights_with_moments(tables, products, [moments.get(product, 0) for product in products])
    one, other = [], []
    for table, weight in zip(tables, weights):
        if weight.sign == 1:
            one.append((table, weight))
        if weight.sign == -1:
            other.append((table, -weight))
    return one, other


def is_weighted_list(value):
    """Whether any value is a list of tuples (table, NUMBER above 0) in which no table stands twice."""
    if not isinstance(value, (list, tuple)) or not all([is_weighted(pair) for pair in value]):
        return False
    return has_different_tables(value)


def moment_of(tops, moments):
    """The moment of a sum of products."""
    return sum([tops[product] * moments[product] for product in tops])


def are_alike(notes, moments, most):
    """Whether all products of at most so many sums of a note have the moment 0."""
    for sums in notes:
        for degree in range(most + 1):
            found = products_of_sums(sums, degree)
            if any([moment_of(found[positions], moments) != 0 for positions in found]):
                return False
    return True


def moments_between(one, other, products):
    """By how much the sums of weight times product are greater over one list, times what makes them integers."""
    negative = [(table, -as_ratio(weight)) for table, weight in other]
    whole, _ = whole_weights(list(one) + negative)
    return {product: sum([many * worth(product, counts) for counts, many in whole]) for product in products}


def are_twins(notes, keys, question, value):
    """Whether any value is moment twins for the notes, all of whose keys are among the keys."""
    if not isinstance(value, tuple) or len(value) != 2:
        return False
    if not is_weighted_list(value[0]) or not is_weighted_list(value[1]):
        return False
    moments = moments_between(value[0], value[1], products_up_to(keys, question.degree))
    return moment_of(tops_of(question), moments) != 0 and are_alike(notes, moments, question.degree)
