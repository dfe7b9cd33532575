"""Questions: sums of products of keys, with Ratios as weights."""

from math import gcd, lcm

from notesums.errors import InvalidCount, InvalidKeys, InvalidName, InvalidNames, InvalidNumber, InvalidQuestion
from notesums.errors import InvalidTable, InvalidTerms
from notesums.names import is_name, maps_names
from notesums.polynomials import expanded, in_order, multiplied, powers_of, worth
from notesums.ratios import Ratio, as_ratio, is_integer, is_number
from notesums.tables import Table


def is_list_of_names(value):
    """Whether any value is a list of NAMES."""
    return isinstance(value, (list, tuple)) and all([is_name(name) for name in value])


def is_term(value):
    """Whether any value is a tuple of a NUMBER and a list of KEYS."""
    if not isinstance(value, tuple) or len(value) != 2:
        return False
    return is_number(value[0]) and is_list_of_names(value[1])


def is_product(value):
    """Whether any value is a sorted tuple of KEYS."""
    return isinstance(value, tuple) and is_list_of_names(value) and list(value) == sorted(value)


def common_bottom(numbers):
    """The least number that is a multiple of the bottoms of all Ratios."""
    bottom = 1
    for number in numbers:
        bottom = lcm(bottom, number.bottom)
    return bottom


def as_question(value):
    """The question for a question or a NUMBER."""
    if isinstance(value, Question):
        return value
    if not is_number(value):
        raise InvalidQuestion(value)
    return Question.constant(value)


def question_of(tops, bottom):
    """The question whose weights are the integers of a sum of products, divided by an integer above 0."""
    common = bottom
    for product in tops:
        common = gcd(common, tops[product])
    question = Question()
    # In lowest terms, in order and without 0, so that equal questions have equal parts.
    question._tops = {product: tops[product] // common for product in in_order(list(tops)) if tops[product] != 0}
    question._bottom = bottom // common
    return question


def tops_of(question):
    """The least multiple of a question with integers as weights, as a sum of products."""
    return {product: question._tops[product] for product in question._tops}


def bottom_of(question):
    """The number by which the weights of `tops_of` are to be divided."""
    return question._bottom


def term_text(number, product):
    """The text of a number above 0 and the keys of a product."""
    words = [] if product and number == Ratio(1) else [str(number)]
    return "*".join([*words, *product])


def sign_text(is_below, is_first):
    """What stands in front of a term."""
    if is_first:
        return "-" if is_below else ""
    return " - " if is_below else " + "


class Question:
    """A sum of products with Ratios as weights, which does not change."""

    def __init__(self, terms=()):
        if not isinstance(terms, (list, tuple)):
            raise InvalidTerms(None)
        for position, term in enumerate(terms):
            if not is_term(term):
                raise InvalidTerms(position)
        self._tops = {}
        self._bottom = 1
        if terms:
            bottom = common_bottom([as_ratio(number) for number, _ in terms])
            tops = {}
            for number, keys in terms:
                ratio, product = as_ratio(number), tuple(sorted(keys))
                tops[product] = tops.get(product, 0) + ratio.top * (bottom // ratio.bottom)
            lowest = question_of(tops, bottom)
            self._tops = lowest._tops
            self._bottom = lowest._bottom

    @classmethod
    def of_key(cls, key):
        """The question for the number of a key."""
        if not is_name(key):
            raise InvalidName(key)
        return cls([(1, (key,))])

    @classmethod
    def constant(cls, number):
        """The question that is a NUMBER for all tables."""
        if not is_number(number):
            raise InvalidNumber(number)
        return cls([(number, ())])

    def terms(self):
        """The list of the tuples (weight, product), in the order of the products."""
        return [(Ratio(self._tops[product], self._bottom), product) for product in self._tops]

    @property
    def degree(self):
        """The greatest degree of the products, -1 without products."""
        return max([len(product) for product in self._tops], default=-1)

    def used_keys(self):
        """The sorted list of the keys of the products."""
        return sorted(set([key for product in self._tops for key in product]))

    def weight(self, product):
        """The weight of a product, 0 if the question lacks it."""
        if not is_product(product):
            raise InvalidKeys(product)
        return Ratio(self._tops.get(product, 0), self._bottom)

    def parts(self):
        """The dict from the degrees of the products to the parts."""
        degrees = sorted(set([len(product) for product in self._tops]))
        return {degree: self._part(degree) for degree in degrees}

    def _part(self, degree):
        tops = {product: self._tops[product] for product in self._tops if len(product) == degree}
        return question_of(tops, self._bottom)

    def _plus(self, other, sign):
        bottom = lcm(self._bottom, other._bottom)
        mine, yours = bottom // self._bottom, sign * (bottom // other._bottom)
        tops = {product: mine * self._tops[product] for product in self._tops}
        for product in other._tops:
            tops[product] = tops.get(product, 0) + yours * other._tops[product]
        return question_of(tops, bottom)

    def __add__(self, other):
        return self._plus(as_question(other), 1)

    def __sub__(self, other):
        return self._plus(as_question(other), -1)

    def __mul__(self, other):
        right = as_question(other)
        return question_of(multiplied(self._tops, right._tops), self._bottom * right._bottom)

    def __neg__(self):
        return question_of({product: -self._tops[product] for product in self._tops}, self._bottom)

    def power(self, many):
        """The question multiplied with itself until it stands so many times."""
        if not is_integer(many) or many < 0:
            raise InvalidCount(many)
        found, square, left = Question.constant(1), self, many
        while left > 0:
            if left & 1 == 1:
                found = found * square
            left = left >> 1
            if left > 0:
                square = square * square
        return found

    def at(self, table):
        """The value at a table."""
        if not isinstance(table, Table):
            raise InvalidTable(table)
        numbers = table.counts()
        value = sum([self._tops[product] * worth(product, numbers) for product in self._tops])
        return Ratio(value, self._bottom)

    def moved(self, table):
        """The question that has at each table the value of this one at the sum of both tables."""
        if not isinstance(table, Table):
            raise InvalidTable(table)
        return self.put({key: Question.of_key(key) + table.at(key) for key in self.used_keys()})

    def put(self, questions):
        """The question with questions or NUMBERs in the place of some keys, all at once."""
        if not isinstance(questions, dict):
            raise InvalidQuestion(questions)
        for key, value in questions.items():
            if not is_name(key) or not (isinstance(value, Question) or is_number(value)):
                raise InvalidQuestion(questions)
        places = {key: as_question(questions.get(key, Question.of_key(key))) for key in self.used_keys()}
        scale = 1
        for key in places:
            scale = lcm(scale, places[key]._bottom)
        scaled = {}
        for key in places:
            tops, many = places[key]._tops, scale // places[key]._bottom
            scaled[key] = {product: many * tops[product] for product in tops}
        tops = expanded(self._tops, scaled, scale)
        return question_of(tops, self._bottom * powers_of(scale, max(0, self.degree))[-1])

    def renamed(self, names):
        """The question with new names for some keys; keys can become one."""
        if not maps_names(names):
            raise InvalidNames(names)
        tops = {}
        for product in self._tops:
            new = tuple(sorted([names.get(key, key) for key in product]))
            tops[new] = tops.get(new, 0) + self._tops[product]
        return question_of(tops, self._bottom)

    def __eq__(self, other):
        return isinstance(other, Question) and self._tops == other._tops and self._bottom == other._bottom

    def __str__(self):
        if not self._tops:
            return "0"
        words = []
        for product in reversed(list(self._tops)):
            top = self._tops[product]
            words.append(sign_text(top < 0, len(words) == 0))
            words.append(term_text(Ratio(abs(top), self._bottom), product))
        return "".join(words)

    def __repr__(self):
        return f"Question({self.terms()!r})"
