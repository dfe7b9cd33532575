"""Boxes: all plain tables with numbers up to some counts."""

from notesums.errors import InvalidBox
from notesums.grids import value_line
from notesums.limits import DEGREE, KEYS, TABLES, check_degree, check_many, keys_of
from notesums.names import is_name
from notesums.questions import bottom_of
from notesums.ratios import Ratio, is_integer
from notesums.spans import Span, combination
from notesums.tables import Table


def is_box(value):
    """Whether any value is a dict from KEYS to COUNTs."""
    if not isinstance(value, dict):
        return False
    return all([is_name(key) and is_integer(most) and most >= 0 for key, most in value.items()])


def check_tables(box):
    """Raises TooMany if a box has too many tables."""
    many = 1
    for key in box:
        many = many * (box[key] + 1)
    check_many("tables", TABLES, many)


def all_counts(box):
    """The dicts of the numbers of all tables of a box, in order."""
    found = [{}]
    for key in sorted(box):
        found = [{**counts, key: number} for counts in found for number in range(box[key] + 1)]
    return found


def box_tables(box):
    """The tables of a box, in order."""
    if not is_box(box):
        raise InvalidBox(box)
    check_tables(box)
    for counts in all_counts(box):
        yield Table(counts)


def checked_tables(sketch, question, box):
    """The list of the tables of a box; InvalidBox, and TooMany for all that is passed."""
    if not is_box(box):
        raise InvalidBox(box)
    keys = sorted(set(keys_of([sketch, question]) + list(box)))
    check_many("keys", KEYS, len(keys))
    check_tables(box)
    check_degree(keys, question.degree, DEGREE)
    return list(box_tables(box))


def shown_lines(note, tables):
    """The dict from the tuples that a note shows, sorted, to lines with 1 for the tables that show it."""
    shown = [note.shows(table) for table in tables]
    return {numbers: [1 if other == numbers else 0 for other in shown] for numbers in sorted(set(shown))}


def box_rule(sketch, question, box):
    """A box rule for the question, or None."""
    tables = checked_tables(sketch, question, box)
    span = Span(len(tables))
    found, chosen = {}, []
    for name, _, note in sketch.walk():
        lines = shown_lines(note, tables)
        found[name] = {numbers: Ratio(0) for numbers in lines}
        for numbers in lines:
            if span.take(lines[numbers]):
                chosen.append((name, numbers, lines[numbers]))
    solved = combination([line for _, _, line in chosen], value_line(question, tables))
    if solved is None:
        return None
    for (name, numbers, _), number in zip(chosen, solved):
        found[name][numbers] = number.over(sketch.weight(name) * bottom_of(question))
    return {name: found[name] for name in sorted(found)}


def has_numbers(value, shown):
    """Whether any value is a dict from just these tuples of INTEGERS to Ratios."""
    if not isinstance(value, dict) or len(value) != len(shown):
        return False
    for numbers in value:
        # A dict does not tell True from 1.
        if not isinstance(numbers, tuple) or not all([is_integer(number) for number in numbers]):
            return False
    return all([numbers in value and isinstance(value[numbers], Ratio) for numbers in shown])


def is_box_rule(sketch, question, box, value):
    """Whether any value is a box rule for the question."""
    tables = checked_tables(sketch, question, box)
    if not isinstance(value, dict) or len(value) != len(sketch):
        return False
    answers = [Ratio(0)] * len(tables)
    for name, weight, note in sketch.walk():
        shown = [note.shows(table) for table in tables]
        if name not in value or not has_numbers(value[name], sorted(set(shown))):
            return False
        for at in range(len(tables)):
            answers[at] = answers[at] + weight * value[name][shown[at]]
    return answers == [question.at(table) for table in tables]
