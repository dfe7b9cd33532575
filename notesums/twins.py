"""Exact twins: two stacks of tables that no seed tells apart."""

from notesums.boxes import checked_tables, shown_lines
from notesums.errors import InvalidCount, InvalidStack, InvalidTable, NotPlain
from notesums.grids import has_different_tables, small_tables, table_key, value_line
from notesums.limits import checked_keys, keys_of
from notesums.ratios import Ratio, is_integer
from notesums.spans import Span, parting
from notesums.tables import Table


def is_layer(value):
    """Whether any value is a tuple of a plain table and a COUNT of at least 1."""
    if not isinstance(value, tuple) or len(value) != 2:
        return False
    table, times = value
    return isinstance(table, Table) and table.is_plain and is_integer(times) and times >= 1


def is_stack(value):
    """Whether any value is a STACK."""
    if not isinstance(value, (list, tuple)) or not all([is_layer(pair) for pair in value]):
        return False
    return has_different_tables(value)


def check_stacks(stacks):
    """Raises InvalidStack for the first value that is no stack."""
    for stack in stacks:
        if not is_stack(stack):
            raise InvalidStack(stack)


def seen(note, stack):
    """The dict from the tuples that a note shows for a stack to how often it shows them."""
    found = {}
    for table, times in stack:
        shown = note.shows(table)
        found[shown] = found.get(shown, 0) + times
    return found


def parting_seeds(sketch, one, other):
    """The list of the seeds that do not see two stacks alike."""
    check_stacks([one, other])
    return [name for name, _, note in sketch.walk() if seen(note, one) != seen(note, other)]


def times_of(stack):
    """The dict from what tells the tables of a stack apart to their times."""
    return {table_key(table): times for table, times in stack}


def lessened(stack, times):
    """A stack with so many times of each table taken off, as far as they last."""
    left = [(table, many - min(many, times.get(table_key(table), 0))) for table, many in stack]
    return [(table, many) for table, many in left if many > 0]


def thinned(one, other):
    """The tuple of both stacks without what they have in common."""
    check_stacks([one, other])
    return lessened(one, times_of(other)), lessened(other, times_of(one))


def moved_stack(stack, table):
    """The stack with a plain table added to each table."""
    check_stacks([stack])
    if not isinstance(table, Table) or not table.is_plain:
        raise InvalidTable(table)
    return [(other + table, times) for other, times in stack]


def twins_among(sketch, question, tables):
    """Exact twins with some of the tables, or None."""
    span = Span(len(tables))
    for _, _, note in sketch.walk():
        lines = shown_lines(note, tables)
        for shown in lines:
            span.take(lines[shown])
    apart = parting(span, value_line(question, tables))
    if apart is None:
        return None
    one = [(table, times) for table, times in zip(tables, apart) if times > 0]
    other = [(table, -times) for table, times in zip(tables, apart) if times < 0]
    return one, other


def exact_twins(sketch, question, *, box=None):
    """Exact twins for the question, in the box if there is one, or None."""
    if box is not None:
        return twins_among(sketch, question, checked_tables(sketch, question, box))
    for name, _, note in sketch.walk():
        if not note.is_plain:
            raise NotPlain(name)
    keys = checked_keys(sketch, [question])
    return twins_among(sketch, question, small_tables(keys, question.degree))


def value_over(question, stack):
    """The sum over a stack of the times times the value of the question."""
    found = Ratio(0)
    for table, times in stack:
        found = found + question.at(table) * times
    return found


def is_twins(sketch, question, value):
    """Whether any value is exact twins for the question."""
    checked_keys(sketch, [question])
    if not isinstance(value, tuple) or len(value) != 2 or not is_stack(value[0]) or not is_stack(value[1]):
        return False
    one, other = value
    return parting_seeds(sketch, one, other) == [] and value_over(question, one) != value_over(question, other)


def failing_size(sketch, question, *, limit=2):
    """The least number up to the limit for whose box there are exact twins, or None."""
    if not is_integer(limit) or limit < 0:
        raise InvalidCount(limit)
    keys = keys_of([sketch, question])
    # The greatest box first: it raises TooMany, and it has twins if a smaller one has.
    if not has_twins(sketch, question, keys, limit):
        return None
    size = 0
    while not has_twins(sketch, question, keys, size):
        size = size + 1
    return size


def has_twins(sketch, question, keys, size):
    """Whether there are exact twins on the box with a number for all of the keys."""
    return exact_twins(sketch, question, box={key: size for key in keys}) is not None
