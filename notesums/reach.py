"""What notes reach: the questions of one degree that are sums of products of sums, each product from one note.

Notes stand here as lists of their sums, which are sums of products with integers.
"""

from notesums.formulas import formula_of
from notesums.polynomials import multiplied, products_of
from notesums.questions import bottom_of, question_of, tops_of
from notesums.spans import Span, combination, span_of


def plain_sums(note):
    """The sums of a note."""
    return [tops_of(question) for question in note.questions()]


def plain_rows(note):
    """Multiples of the rows of a note, which reach as much as its sums."""
    return [tops_of(question) for question in note.rows()]


def rows_among(sums, keys):
    """The reduced rows, times what makes them integers, of sums with keys among these."""
    products = products_of(keys, 1)
    span = span_of([line_of(row, products) for row in sums], len(products))
    found = []
    for lead in span.leads():
        found.append({product: number for product, number in zip(products, span.row(lead)) if number != 0})
    return found


def rows_of_sums(sums, keys):
    """The rows of sums that are dicts."""
    return rows_among([{(key,): row[key] for key in row} for row in sums], keys)


def line_of(tops, products):
    """The weights of products, one behind the other."""
    return [tops.get(product, 0) for product in products]


def products_of_sums(sums, degree):
    """The dict from all products of so many positions to their sums, multiplied out."""
    found = {(): {(): 1}}
    for _ in range(degree):
        longer = {}
        for places in found:
            for position in range(places[-1] if places else 0, len(sums)):
                grown = (*places, position)
                longer[grown] = multiplied(found[places], sums[position])
        found = longer
    return found


def reach(notes, keys, degree):
    """The span of the products of a degree over the keys that the notes reach."""
    products = products_of(keys, degree)
    span = Span(len(products))
    for sums in notes:
        extend_reach(span, sums, products, degree)
    return span


def extend_reach(span, sums, products, degree):
    """Takes into a span what one more note reaches."""
    if span.is_full():
        return
    found = products_of_sums(sums, degree)
    for places in found:
        span.take(line_of(found[places], products))


def part_line(question, keys, degree):
    """The weights of the products of a degree, times what makes them integers."""
    return line_of(tops_of(question), products_of(keys, degree))


def is_reached(notes, keys, question, degree):
    """Whether the notes reach the part of a degree."""
    return reach(notes, keys, degree).has(part_line(question, keys, degree))


def unreached_degrees(notes, keys, question):
    """The sorted list of the degrees whose part the notes do not reach."""
    return [degree for degree in question.parts() if not is_reached(notes, keys, question, degree)]


def questions_of_rows(span, products):
    """The reduced rows of a span of weights of these products, as questions."""
    found = []
    for lead in span.leads():
        row = span.row(lead)
        found.append(question_of({product: number for product, number in zip(products, row)}, row[lead]))
    return found


def base_of(span, keys, degree):
    """The reduced rows of a span of questions of a degree, as questions."""
    return questions_of_rows(span, products_of(keys, degree))


def independent_positions(sums, keys):
    """The positions of the sums that are not sums of multiples of those before them."""
    products = products_of(keys, 1)
    span = Span(len(products))
    found = []
    for position in range(len(sums)):
        if span.take(line_of(sums[position], products)):
            found.append(position)
    return found


def independent_products(sums, keys, degree):
    """The dict from products of positions to what they are multiplied out, without sums that others make."""
    positions = independent_positions(sums, keys)
    found = products_of_sums([sums[position] for position in positions], degree)
    return {tuple([positions[place] for place in places]): found[places] for places in found}


def reaching_terms(named, keys, question, degree):
    """The list of tuples (name, positions, Ratio) that add up to the part of a degree; None if none do.

    The notes are passed as tuples (name, sums).
    """
    products = products_of(keys, degree)
    target = part_line(question, keys, degree)
    span = Span(len(products))
    chosen = []
    for name, sums in named:
        found = independent_products(sums, keys, degree)
        for places in found:
            line = line_of(found[places], products)
            if span.take(line):
                chosen.append((name, places, line))
        if span.has(target):
            break
    numbers = combination([line for _, _, line in chosen], target)
    if numbers is None:
        return None
    bottom = bottom_of(question)
    return [(chosen[at][0], chosen[at][1], numbers[at].over(bottom)) for at in range(len(chosen))]


def reaching_formulas(named, keys, question):
    """The dict from the names to formulas that add up to a question; None if none do."""
    terms = {name: [] for name, _ in named}
    for degree in question.parts():
        found = reaching_terms(named, keys, question, degree)
        if found is None:
            return None
        for name, places, number in found:
            terms[name].append((number, places))
    return {name: formula_of(terms[name]) for name in terms}


def take_rows(span, other):
    """Takes into a span all rows of another one."""
    for lead in other.leads():
        span.take(other.row(lead))


def degrees_of(questions):
    """The sorted list of the degrees of all parts of questions."""
    return sorted(set([degree for question in questions for degree in question.parts()]))


class Reached:
    """What notes reach in each of some degrees, note by note."""

    def __init__(self, keys, degrees):
        self._degrees = degrees
        self._products = {degree: products_of(keys, degree) for degree in degrees}
        self._spans = {degree: Span(len(self._products[degree])) for degree in degrees}

    def take(self, sums):
        """Takes what one more note reaches."""
        for degree in self._degrees:
            extend_reach(self._spans[degree], sums, self._products[degree], degree)

    def take_all(self, other):
        """Takes what another one, of the same degrees, has reached."""
        for degree in self._degrees:
            mine, yours = self._spans[degree], other._spans[degree]
            if not mine.is_full():
                take_rows(mine, yours)

    def has_all(self, questions):
        """Whether all questions, with parts of these degrees only, are reached."""
        for question in questions:
            tops = tops_of(question)
            if not all([self._spans[degree].has(line_of(tops, self._products[degree])) for degree in question.parts()]):
                return False
        return True

    def twin(self):
        """Another one that has reached the same."""
        other = Reached([], [])
        other._degrees, other._products = self._degrees, self._products
        other._spans = {degree: self._spans[degree].twin() for degree in self._degrees}
        return other


def reached_from(rows, keys, degrees):
    """For each position what the notes from there on reach, and nothing at the end."""
    found = [Reached(keys, degrees)]
    for sums in reversed(rows):
        longer = found[-1].twin()
        longer.take(sums)
        found.append(longer)
    return list(reversed(found))


def reached_by_others(rows, keys, degrees):
    """For each position what all notes but this one reach."""
    later = reached_from(rows, keys, degrees)
    before = Reached(keys, degrees)
    found = []
    for at in range(len(rows)):
        others = later[at + 1].twin()
        others.take_all(before)
        found.append(others)
        before.take(rows[at])
    return found
