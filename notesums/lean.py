"""Sketches without the sums that some questions do not need, and with sums that a question needs."""

from itertools import combinations

from notesums.answers import rows_of
from notesums.errors import InvalidCount, InvalidQuestion
from notesums.limits import DEGREE, KEYS, SUMS, check_degree, check_many, checked_keys, keys_of
from notesums.notes import Note, check_sums
from notesums.questions import Question
from notesums.ratios import is_integer
from notesums.reach import Reached, degrees_of, reached_from, rows_of_sums, unreached_degrees
from notesums.sketches import Sketch


def without_sum(sketch, seed, position):
    """The sketch without the sum at a position of the note of a seed."""
    sums = sketch.note(seed).sums()
    if not is_integer(position) or not 0 <= position < len(sums):
        raise InvalidCount(position)
    fewer = Note(sums[:position] + sums[position + 1:])
    return Sketch([(name, weight, fewer if name == seed else note) for name, weight, note in sketch.walk()])


def with_sums(sketch, sums):
    """The sketch with further sums behind those of each note."""
    more = Note(sums)
    return Sketch([(name, weight, note + more) for name, weight, note in sketch.walk()])


def needed_of_note(sums, others, keys, questions):
    """The sums of a note that are left; the others are left out from the last to the first one."""
    if others.has_all(questions):
        return []
    kept = sums
    for position in reversed(range(len(sums))):
        fewer = kept[:position] + kept[position + 1:]
        reached = others.twin()
        reached.take(rows_of_sums(fewer, keys))
        if reached.has_all(questions):
            kept = fewer
    return kept


def lean(sketch, questions):
    """The sketch without the sums that the questions do not need."""
    if not isinstance(questions, (list, tuple)):
        raise InvalidQuestion(questions)
    for question in questions:
        if not isinstance(question, Question):
            raise InvalidQuestion(question)
    keys = checked_keys(sketch, questions)
    degrees = degrees_of(questions)
    later = reached_from(rows_of(sketch), keys, degrees)
    answered = [question for question in questions if later[0].has_all([question])]
    before = Reached(keys, degrees)
    seeds = []
    for name, weight, note in sketch.walk():
        others = later[len(seeds) + 1].twin()
        others.take_all(before)
        kept = needed_of_note(note.sums(), others, keys, answered)
        before.take(rows_of_sums(kept, keys))
        seeds.append((name, weight, Note(kept)))
    return Sketch(seeds)


def checked_additions(sketch, question, sums):
    """The sorted list of all keys; the errors of adding all of the sums and asking the question."""
    check_sums(sums)
    for _, _, note in sketch.walk():
        check_many("sums", SUMS, len(note) + len(sums))
    keys = keys_of([sketch, question, Note(sums)])
    check_many("keys", KEYS, len(keys))
    check_degree(keys, question.degree, DEGREE)
    return keys


def least_additions(sketch, question, sums):
    """All least sets of positions of the sums that make the question answered."""
    keys = checked_additions(sketch, question, sums)
    positions = list(range(len(sums)))
    found = []
    for size in range(len(sums) + 1):
        for some in combinations(positions, size):
            # A set that contains a smaller one with which it is answered is not a least one.
            greater = any([all([position in some for position in less]) for less in found])
            if not greater and is_answered_with(sketch, question, [sums[position] for position in some], keys):
                found.append(some)
    return found


def is_answered_with(sketch, question, added, keys):
    """Whether the question is answered when sums are added."""
    notes = []
    for _, _, note in sketch.walk():
        rows = rows_of_sums(note.sums() + added, keys)
        if rows not in notes:
            notes.append(rows)
    return unreached_degrees(notes, keys, question) == []
