"""Tables: an INTEGER for each key, 0 for all but a few."""

from notesums.errors import InvalidName, InvalidNames, InvalidNumber, InvalidTable
from notesums.names import is_name, maps_names
from notesums.ratios import is_integer


def maps_to_integers(value):
    """Whether any value is a dict from KEYS to INTEGERS."""
    if not isinstance(value, dict):
        return False
    return all([is_name(key) and is_integer(number) for key, number in value.items()])


class Table:
    """A number for each key, which does not change."""

    def __init__(self, counts=None):
        given = {} if counts is None else counts
        if not maps_to_integers(given):
            raise InvalidTable(counts)
        # Sorted and without 0, so that equal tables have equal dicts and texts.
        self._counts = {key: given[key] for key in sorted(given) if given[key] != 0}

    def at(self, key):
        """The number of a key."""
        if not is_name(key):
            raise InvalidName(key)
        return self._counts.get(key, 0)

    def used_keys(self):
        """The sorted list of the keys with a number other than 0."""
        return list(self._counts)

    def counts(self):
        """The dict from the used keys, sorted, to their numbers."""
        return {key: self._counts[key] for key in self._counts}

    @property
    def is_plain(self):
        """Whether no number is below 0."""
        return all([self._counts[key] > 0 for key in self._counts])

    def __add__(self, other):
        if not isinstance(other, Table):
            raise InvalidTable(other)
        keys = [*self._counts, *other._counts]
        return Table({key: self.at(key) + other.at(key) for key in keys})

    def __sub__(self, other):
        if not isinstance(other, Table):
            raise InvalidTable(other)
        keys = [*self._counts, *other._counts]
        return Table({key: self.at(key) - other.at(key) for key in keys})

    def __neg__(self):
        return self.times(-1)

    def times(self, many):
        """The table with each number multiplied by an INTEGER."""
        if not is_integer(many):
            raise InvalidNumber(many)
        return Table({key: self._counts[key] * many for key in self._counts})

    def renamed(self, names):
        """The table with new names for some keys; numbers of keys that become one are added."""
        if not maps_names(names):
            raise InvalidNames(names)
        counts = {}
        for key in self._counts:
            new = names.get(key, key)
            counts[new] = counts.get(new, 0) + self._counts[key]
        return Table(counts)

    def __eq__(self, other):
        return isinstance(other, Table) and self._counts == other._counts

    def __len__(self):
        return len(self._counts)

    def __contains__(self, x):
        # What is no key could be a list, for which a dict cannot be asked.
        return is_name(x) and x in self._counts

    def __repr__(self):
        return f"Table({self._counts!r})"
