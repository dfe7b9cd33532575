"""Two tables that share one seed, and what is lost by it."""

from notesums.errors import InvalidNames
from notesums.names import maps_names
from notesums.polynomials import multiplied
from notesums.reach import line_of, plain_rows, questions_of_rows
from notesums.sketches import Sketch
from notesums.spans import Span


def check_new_names(sketch, names):
    """Raises InvalidNames unless a value is a dict from just the keys of the sketch to different new KEYS."""
    keys = sketch.used_keys()
    if not maps_names(names) or sorted(list(names)) != keys:
        raise InvalidNames(names)
    new = [names[key] for key in names]
    if len(set(new)) != len(new) or any([name in keys for name in new]):
        raise InvalidNames(names)


def tied(sketch, names):
    """The sketch with one seed for two tables: the sums of each note, and then those with the new names."""
    check_new_names(sketch, names)
    return Sketch([(name, weight, note + note.renamed(names)) for name, weight, note in sketch.walk()])


def own(sketch, names):
    """The sketch with a seed for each of two tables."""
    check_new_names(sketch, names)
    return sketch.paired(sketch.renamed(names))


def join_products(names):
    """The sorted list of all products of one old key and one new key."""
    return sorted([tuple(sorted([old, names[other]])) for old in names for other in names])


def join_lines(note, other, names, products):
    """What products of a sum of a note and a renamed sum of the other one are multiplied out."""
    renamed = plain_rows(other.renamed(names))
    return [line_of(multiplied(left, right), products) for left in plain_rows(note) for right in renamed]


def tied_span(sketch, names, products):
    """The span of the join questions that the tied sketch can answer.

    Each sum of a tied note has old keys only or new keys only, so nothing but products of both make these questions.
    """
    span = Span(len(products))
    for _, _, note in sketch.walk():
        for line in join_lines(note, note, names, products):
            span.take(line)
    return span


def tied_joins(sketch, names):
    """The base of the join questions that the tied sketch can answer."""
    tied(sketch, names)
    products = join_products(names)
    return questions_of_rows(tied_span(sketch, names, products), products)


def tying_loses(sketch, names):
    """The base of what is left of the join questions that own seeds answer, but the tied sketch does not."""
    tied(sketch, names)
    own(sketch, names)
    products = join_products(names)
    answered, lost = tied_span(sketch, names, products), Span(len(products))
    for _, _, note in sketch.walk():
        for _, _, other in sketch.walk():
            for line in join_lines(note, other, names, products):
                lost.take(answered.left(line))
    return questions_of_rows(lost, products)
