"""Moment twins: weighted tables that no seed tells apart."""

from notesums.alike import are_twins, twins_of
from notesums.limits import checked_keys
from notesums.reach import plain_rows


def moment_twins(sketch, question):
    """Moment twins for the question with small plain tables, or None."""
    keys = checked_keys(sketch, [question])
    return twins_of([plain_rows(note) for _, _, note in sketch.walk()], keys, question)


def is_moment_twins(sketch, question, value):
    """Whether any value is moment twins for the question."""
    keys = checked_keys(sketch, [question])
    return are_twins([plain_rows(note) for _, _, note in sketch.walk()], keys, question, value)
