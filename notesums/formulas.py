"""Formulas: questions over p0, p1, .., which stand for the sums of a note."""

from notesums.questions import Question
from notesums.tables import Table


def position_key(position):
    """The key that stands for the sum at a position."""
    return f"p{position}"


def position_keys(many):
    """The dict from the keys for so many sums to their positions."""
    return {position_key(position): position for position in range(many)}


def is_formula(value, many):
    """Whether any value is a formula for a note with so many sums."""
    if not isinstance(value, Question):
        return False
    known = position_keys(many)
    return all([key in known for key in value.used_keys()])


def formula_of(terms):
    """The formula from tuples (NUMBER, positions)."""
    return Question([(number, [position_key(position) for position in places]) for number, places in terms])


def put_sums(formula, questions):
    """The formula with the sums, as questions, put for its keys."""
    return formula.put({position_key(position): questions[position] for position in range(len(questions))})


def formula_at(formula, shown):
    """The value of the formula for a tuple of shown numbers."""
    return formula.at(Table({position_key(position): shown[position] for position in range(len(shown))}))


def shifted(formula, own, others):
    """The formula for so many own sums when they stand behind so many others."""
    return formula.renamed({position_key(position): position_key(position + others) for position in range(own)})
