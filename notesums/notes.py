"""Notes: lists of sums, which are shown for a table."""

from notesums.errors import InvalidName, InvalidNames, InvalidQuestion, InvalidSum, InvalidTable
from notesums.limits import SUMS, check_many
from notesums.names import is_name, maps_names
from notesums.questions import Question, question_of, tops_of
from notesums.ratios import is_integer
from notesums.spans import span_of
from notesums.tables import Table, maps_to_integers


def check_sums(value):
    """Raises InvalidSum unless a value is a list of SUMS."""
    if not isinstance(value, (list, tuple)):
        raise InvalidSum(None)
    for position, row in enumerate(value):
        if not maps_to_integers(row):
            raise InvalidSum(position)


def is_multiples(value, many):
    """Whether any value is a tuple of so many INTEGERS."""
    return isinstance(value, tuple) and len(value) == many and all([is_integer(number) for number in value])


def trimmed(row):
    """A sum with sorted keys, without those that have 0."""
    return {key: row[key] for key in sorted(row) if row[key] != 0}


def multiples(sums, numbers):
    """The sum of multiples of sums."""
    found = {}
    for row, many in zip(sums, numbers):
        for key in row:
            found[key] = found.get(key, 0) + many * row[key]
    return found


class Note:
    """A list of up to eight sums, which does not change."""

    def __init__(self, sums):
        check_sums(sums)
        check_many("sums", SUMS, len(sums))
        self._sums = [trimmed(row) for row in sums]

    @classmethod
    def of_keys(cls, *keys):
        """The note whose sums are these keys."""
        for key in keys:
            if not is_name(key):
                raise InvalidName(key)
        return cls([{key: 1} for key in keys])

    def sums(self):
        """The list of the sums, as dicts without keys that have 0."""
        return [{key: row[key] for key in row} for row in self._sums]

    def used_keys(self):
        """The sorted list of the keys of the sums."""
        return sorted(set([key for row in self._sums for key in row]))

    def shows(self, table):
        """The tuple of the values of the sums at a table."""
        if not isinstance(table, Table):
            raise InvalidTable(table)
        numbers = table.counts()
        return tuple([sum([row[key] * numbers.get(key, 0) for key in row]) for row in self._sums])

    def questions(self):
        """The list of the sums as questions."""
        return [Question([(row[key], (key,)) for key in row]) for row in self._sums]

    def _span(self, keys):
        return span_of([[row.get(key, 0) for key in keys] for row in self._sums], len(keys))

    def rows(self):
        """The list of the rows, as questions."""
        keys = self.used_keys()
        span = self._span(keys)
        found = []
        for lead in span.leads():
            row = span.row(lead)
            tops = {(key,): number for key, number in zip(keys, row)}
            found.append(question_of(tops, row[lead]))
        return found

    def has(self, question):
        """Whether a question of degree 1 without the empty product, or NOTHING, comes from the rows."""
        if not isinstance(question, Question):
            raise InvalidQuestion(question)
        tops = tops_of(question)
        if not all([len(product) == 1 for product in tops]):
            raise InvalidQuestion(question)
        keys = sorted(set(self.used_keys() + question.used_keys()))
        return self._span(keys).has([tops.get((key,), 0) for key in keys])

    def worth_the_same(self, other):
        """Whether the rows are those of another note."""
        return self.rows() == other.rows()

    def __add__(self, other):
        return Note([*self._sums, *other._sums])

    def through(self, rows):
        """The note that has for each tuple of multiples the sum of these multiples."""
        if not isinstance(rows, (list, tuple)):
            raise InvalidSum(None)
        for position, row in enumerate(rows):
            if not is_multiples(row, len(self._sums)):
                raise InvalidSum(position)
        return Note([multiples(self._sums, row) for row in rows])

    def renamed(self, names):
        """The note with new names for some keys; integers of keys that become one are added."""
        if not maps_names(names):
            raise InvalidNames(names)
        return Note([Table(row).renamed(names).counts() for row in self._sums])

    @property
    def is_plain(self):
        """Whether all integers are 0 or 1, and no key has a 1 in two sums."""
        keys = [key for row in self._sums for key in row]
        ones = all([row[key] == 1 for row in self._sums for key in row])
        return ones and len(set(keys)) == len(keys)

    def __len__(self):
        return len(self._sums)

    def __eq__(self, other):
        return isinstance(other, Note) and self._sums == other._sums

    def __repr__(self):
        return f"Note({self._sums!r})"
