"""What several copies of the notes can answer, and what no seed sees."""

from itertools import combinations

from notesums.alike import are_twins, twins_of
from notesums.answers import check_count, rule_for
from notesums.errors import InvalidCount
from notesums.formulas import is_formula, put_sums
from notesums.grids import small_tables
from notesums.limits import check_many, checked_keys
from notesums.questions import Question, tops_of
from notesums.ratios import Ratio, is_integer
from notesums.reach import reaching_formulas, rows_among, unreached_degrees
from notesums.sketches import check_copies
from notesums.spans import opposites, span_of
from notesums.tables import Table

SEEDS = 6


def checked_for_copies(sketch, question):
    """The sorted list of the keys of both; TooMany for all that is passed."""
    keys = checked_keys(sketch, [question])
    check_many("seeds", SEEDS, len(sketch))
    return keys


def sums_of_set(sketch, seeds):
    """The list of the sums of a set of seeds, as questions."""
    found = []
    for name, _, note in sketch.walk():
        if name in seeds:
            found.extend(note.questions())
    return found


def sets_of_size(names, size):
    """The list of the sets of just so many seeds, as sorted tuples."""
    return [tuple(sorted(seeds)) for seeds in combinations(names, size)]


def greatest_sets(sketch, many):
    """The greatest sets of at most so many seeds; what smaller ones reach, these reach as well."""
    return sets_of_size(sketch.seeds(), min(many, len(sketch)))


def plain_set(sketch, seeds):
    """The sums of a set of seeds, as sums of products."""
    return [tops_of(question) for question in sums_of_set(sketch, seeds)]


def rows_of_sets(sketch, keys, many):
    """The rows of the notes of the greatest sets."""
    return [rows_among(plain_set(sketch, seeds), keys) for seeds in greatest_sets(sketch, many)]


def least_copies(sketch, question):
    """The least number of copies with which the question can be answered, or None."""
    keys = checked_for_copies(sketch, question)
    for many in range(max(question.degree, 0) + 1):
        if unreached_degrees(rows_of_sets(sketch, keys, many), keys, question) == []:
            return many
    return None


def copies_rule(sketch, question, many):
    """A copies rule with formulas of at most the degree of the question, or None."""
    check_count(many)
    keys = checked_for_copies(sketch, question)
    named = [(seeds, plain_set(sketch, seeds)) for seeds in greatest_sets(sketch, many)]
    formulas = reaching_formulas(named, keys, question)
    if formulas is None:
        return None
    return {seeds: formulas[seeds] for seeds in sorted(formulas) if formulas[seeds] != Question()}


def is_set_of_seeds(sketch, value):
    """Whether any value is a sorted tuple of names of different seeds."""
    if not isinstance(value, tuple) or not all([isinstance(name, str) for name in value]):
        return False
    return list(value) == sorted(set(value)) and all([name in sketch.seeds() for name in value])


def is_copies_rule(sketch, question, many, value):
    """Whether any value is a copies rule for so many copies that answers the question."""
    check_count(many)
    checked_for_copies(sketch, question)
    if not isinstance(value, dict):
        return False
    mean = Question()
    for seeds, formula in value.items():
        if not is_set_of_seeds(sketch, seeds) or len(seeds) > many:
            return False
        sums = sums_of_set(sketch, seeds)
        if not is_formula(formula, len(sums)):
            return False
        mean = mean + put_sums(formula, sums)
    return mean == question


def copies_twins(sketch, question, many):
    """Copies twins for the question with small plain tables, or None."""
    check_count(many)
    keys = checked_for_copies(sketch, question)
    return twins_of(rows_of_sets(sketch, keys, many), keys, question)


def is_copies_twins(sketch, question, many, value):
    """Whether any value is copies twins for the question."""
    check_count(many)
    keys = checked_for_copies(sketch, question)
    return are_twins(rows_of_sets(sketch, keys, many), keys, question, value)


def rule_of_copies(sketch, question, many):
    """A rule for so many copies of the sketch that answers the question, or None."""
    if not is_integer(many) or many < 1:
        raise InvalidCount(many)
    check_copies(sketch, many)
    checked_for_copies(sketch, question)
    return rule_for(sketch.copies(many), question)


def unseen_changes(sketch, keys):
    """The reduced rows, as integers over the keys, of all changes that no seed sees."""
    sums = [row for _, _, note in sketch.walk() for row in note.sums()]
    span = span_of([[row.get(key, 0) for key in keys] for row in sums], len(keys))
    unseen = span_of(opposites(span), len(keys))
    return [unseen.row(lead) for lead in unseen.leads()]


def unseen_base(sketch):
    """The reduced rows of all changes of the keys of the sketch that no seed sees."""
    keys = sketch.used_keys()
    found = []
    for row in unseen_changes(sketch, keys):
        changed = {key: number for key, number in zip(keys, row) if number != 0}
        first = changed[list(changed)[0]]
        found.append({key: Ratio(changed[key], first) for key in changed})
    return found


def is_unseen(sketch, value):
    """Whether any value is a Table that no seed sees as a change."""
    if not isinstance(value, Table):
        return False
    return not any([number for _, _, note in sketch.walk() for number in note.shows(value)])


def unseen_pair(sketch, question):
    """Two plain tables that show the same for each seed, but have different values; None if there are none."""
    keys = checked_keys(sketch, [question])
    for row in unseen_changes(sketch, keys):
        change = Table({key: number for key, number in zip(keys, row)})
        difference = question.moved(change) - question
        if difference != Question():
            least = Table({key: max(0, -change.at(key)) for key in keys})
            table = least + first_other_than_0(difference.moved(least), keys)
            return table, table + change
    return None


def first_other_than_0(question, keys):
    """The first small plain table at which a question, other than NOTHING, is not 0."""
    tables = small_tables(keys, question.degree)
    return [table for table in tables if question.at(table).sign != 0][0]
