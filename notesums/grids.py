"""Lists of tables, and lists of tuples of a table and how much of it there is."""

from math import lcm

from notesums.polynomials import products_of, worth
from notesums.questions import tops_of
from notesums.ratios import as_ratio, is_number
from notesums.tables import Table


def table_of(product):
    """The table in which each key has as many as it stands in a product."""
    return Table({key: product.count(key) for key in product})


def small_tables(keys, most):
    """All plain tables over sorted keys whose numbers have at most a sum."""
    return [table_of(product) for degree in range(most + 1) for product in products_of(keys, degree)]


def table_key(table):
    """What tells a table from other ones, as a tuple."""
    counts = table.counts()
    return tuple([(key, counts[key]) for key in counts])


def has_different_tables(pairs):
    """Whether no table stands twice in tuples that begin with a table."""
    return len(set([table_key(table) for table, _ in pairs])) == len(pairs)


def is_weighted(value):
    """Whether any value is a tuple of a Table and a NUMBER above 0."""
    if not isinstance(value, tuple) or len(value) != 2:
        return False
    return isinstance(value[0], Table) and is_number(value[1]) and as_ratio(value[1]).sign == 1


def whole_weights(pairs):
    """The tuples (counts of the table, integer) for tuples (table, weight), and what the integers are divided by."""
    bottom = 1
    for _, weight in pairs:
        bottom = lcm(bottom, as_ratio(weight).bottom)
    whole = []
    for table, weight in pairs:
        ratio = as_ratio(weight)
        whole.append((table.counts(), ratio.top * (bottom // ratio.bottom)))
    return whole, bottom


def value_line(question, tables):
    """The values of a question at tables, times what makes the weights of the question integers."""
    tops = tops_of(question)
    found = []
    for table in tables:
        counts = table.counts()
        found.append(sum([tops[product] * worth(product, counts) for product in tops]))
    return found
