"""What lists of integers, all of one length, span: exact and without fractions."""

from math import gcd, lcm

from notesums.ratios import Ratio


def primitive(line):
    """The integers, divided by what is common to all of them; the first other than 0 becomes greater than 0."""
    common, first = 0, 0
    for number in line:
        common = gcd(common, number)
        first = first if first != 0 else number
        if common == 1:
            break
    if first < 0:
        common = -common
    return [number // common for number in line] if common not in (0, 1) else list(line)


def without(line, other, at):
    """A multiple of a line, less the multiple of the other line that makes the number at a place 0."""
    common = gcd(line[at], other[at])
    mine, yours = other[at] // common, line[at] // common
    if mine == 1:
        return [one - yours * two for one, two in zip(line, other)]
    return [mine * one - yours * two for one, two in zip(line, other)]


class Span:
    """All sums of multiples of the lines that were taken.

    It is kept as reduced rows: the first number of each row, its lead, is above 0, and 0 in all other rows.
    """

    def __init__(self, width):
        self._width = width
        self._rows = {}

    def leads(self):
        """The sorted list of the places of the first numbers of the reduced rows."""
        return sorted(list(self._rows))

    def row(self, lead):
        """The reduced row with its first number at a place: integers that have nothing in common."""
        return list(self._rows[lead])

    def free(self):
        """The places that are no lead."""
        return [at for at in range(self._width) if at not in self._rows]

    def is_full(self):
        """Whether each line is in it."""
        return len(self._rows) == self._width

    def left(self, line):
        """What is left of a multiple of a line, above 0, when all leads are made 0 in it."""
        found = line
        for lead in self._rows:
            if line[lead] != 0:
                found = without(found, self._rows[lead], lead)
        return found

    def has(self, line):
        """Whether a line is a sum of multiples of those that were taken."""
        return not any(self.left(line))

    def take(self, line):
        """Takes one more line; tells whether it was new."""
        new = primitive(self.left(line))
        if not any(new):
            return False
        lead = min([at for at in range(self._width) if new[at] != 0])
        for other in list(self._rows):
            if self._rows[other][lead] != 0:
                self._rows[other] = primitive(without(self._rows[other], new, lead))
        self._rows[lead] = new
        return True

    def twin(self):
        """Another span with the same rows."""
        other = Span(self._width)
        other._rows = {lead: self._rows[lead] for lead in self._rows}
        return other


def span_of(lines, width):
    """The span of lines of a length."""
    span = Span(width)
    for line in lines:
        span.take(line)
    return span


def transposed(lines, width):
    """The lines of the first numbers, of the second ones, and so on."""
    return [[line[at] for line in lines] for at in range(width)]


def opposite(span, free):
    """The integers at right angles to a span that are 0 at all free places but one."""
    leads = span.leads()
    many = 1
    for lead in leads:
        many = lcm(many, span.row(lead)[lead])
    found = [0] * (len(leads) + len(span.free()))
    found[free] = many
    for lead in leads:
        row = span.row(lead)
        found[lead] = -(row[free] * (many // row[lead]))
    return primitive(found)


def opposites(span):
    """A list of lines from which all that are at right angles to a span come in just one way."""
    return [opposite(span, free) for free in span.free()]


def parting(span, line):
    """A line at right angles to a span, but not to the given line; None if the span has this one."""
    left = span.left(line)
    places = [at for at in range(len(left)) if left[at] != 0]
    return opposite(span, places[0]) if places else None


def relations(lines, width):
    """A list from which all multiples of the lines that add up to 0 come in just one way."""
    return opposites(span_of(transposed(lines, width), len(lines)))


def combination(lines, target):
    """The Ratios by which the lines are to be multiplied to add up to the target; None if there are none."""
    span = span_of(transposed([*lines, target], len(target)), len(lines) + 1)
    leads = span.leads()
    if len(lines) in leads:
        return None
    found = [Ratio(0)] * len(lines)
    for lead in leads:
        row = span.row(lead)
        found[lead] = Ratio(row[len(lines)], row[lead])
    return found
