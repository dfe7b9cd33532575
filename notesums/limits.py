"""The limits of what is passed, each with its TooMany."""

from math import comb

from notesums.errors import TooMany

SUMS = 8
SEEDS = 12
KEYS = 6
TABLES = 81
DEGREE = 4
PRODUCTS = 60
FORMULAS = 60


def check_many(kind, limit, many):
    """Raises TooMany if there are more of a kind than the limit."""
    if many > limit:
        raise TooMany(kind, limit)


def keys_of(holders):
    """The sorted list of the keys of sketches, questions and tables."""
    return sorted(set([key for holder in holders for key in holder.used_keys()]))


def product_count(many, degree):
    """The number of the products of just a degree over so many keys."""
    if degree < 1:
        return 1 if degree == 0 else 0
    return comb(many + degree - 1, degree)


def check_degree(keys, degree, limit):
    """Raises TooMany for a degree beyond the limit, or for too many products of it over the keys."""
    check_many("degree", limit, degree)
    check_many("products", PRODUCTS, product_count(len(keys), degree))


def check_formulas(notes, degree):
    """Raises TooMany for too many products of at most a degree of positions, of all notes together."""
    check_many("formulas", FORMULAS, sum([comb(len(note) + degree, degree) for note in notes]))


def checked_keys(sketch, questions):
    """The sorted list of all keys of a sketch and questions; TooMany for keys, degree and products."""
    keys = keys_of([sketch, *questions])
    check_many("keys", KEYS, len(keys))
    check_degree(keys, max([question.degree for question in questions], default=-1), DEGREE)
    return keys
