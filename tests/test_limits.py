"""TooMany: its kinds, its sequence and the functions that raise it."""

import unittest
from functools import reduce
from math import comb

from made import sample, signs, sketch_of
from notesums.answers import answer_base, answers_as_much, can_answer, failing_degrees, remainder, rule_for
from notesums.answers import unmatched_seeds, zero_base
from notesums.boxes import box_rule, is_box_rule
from notesums.copies import copies_rule, copies_twins, is_copies_rule, is_copies_twins, is_unseen, least_copies
from notesums.copies import rule_of_copies, unseen_base, unseen_pair
from notesums.errors import InvalidBox, InvalidCount, InvalidQuestion, InvalidSum, NotPlain
from notesums.lean import lean, least_additions
from notesums.limits import product_count
from notesums.moments import is_moment_twins, moment_twins
from notesums.polynomials import products_of
from notesums.questions import Question
from notesums.rules import Rule, is_rule
from notesums.tables import Table
from notesums.twins import exact_twins, failing_size, is_twins
from wrong import too_many

KEYS = {key: Question.of_key(key) for key in "abcdefgh"}
A, B, C = KEYS["a"], KEYS["b"], KEYS["c"]

# Functions of a sketch and a question that have the same limits for them.
ASKING = {
    "can_answer": can_answer,
    "rule_for": rule_for,
    "failing_degrees": failing_degrees,
    "remainder": remainder,
    "moment_twins": moment_twins,
    "is_moment_twins": lambda sketch, question: is_moment_twins(sketch, question, None),
    "box_rule": lambda sketch, question: box_rule(sketch, question, {}),
    "is_box_rule": lambda sketch, question: is_box_rule(sketch, question, {}, None),
    "exact_twins": exact_twins,
    "exact_twins in a box": lambda sketch, question: exact_twins(sketch, question, box={}),
    "is_twins": lambda sketch, question: is_twins(sketch, question, None),
    "failing_size": lambda sketch, question: failing_size(sketch, question, limit=0),
    "least_copies": least_copies,
    "copies_rule": lambda sketch, question: copies_rule(sketch, question, 1),
    "is_copies_rule": lambda sketch, question: is_copies_rule(sketch, question, 1, None),
    "copies_twins": lambda sketch, question: copies_twins(sketch, question, 1),
    "is_copies_twins": lambda sketch, question: is_copies_twins(sketch, question, 1, None),
    "rule_of_copies": lambda sketch, question: rule_of_copies(sketch, question, 1),
    "unseen_pair": unseen_pair,
    "lean": lambda sketch, question: lean(sketch, [question]),
    "lean with two": lambda sketch, question: lean(sketch, [A, question]),
    "least_additions": lambda sketch, question: least_additions(sketch, question, []),
}
COPYING = ["least_copies", "copies_rule", "is_copies_rule", "copies_twins", "is_copies_twins", "rule_of_copies"]


def sum_of(keys):
    """The question that is the sum of some keys."""
    return reduce(lambda one, other: one + other, [KEYS[key] for key in keys], Question())


def together(keys, degree):
    """A question of a degree with all of the keys."""
    return sum_of(keys) + KEYS[keys[0]].power(degree)


class Asking(unittest.TestCase):
    def each(self, kind, limit, sketch, question):
        for name, call in ASKING.items():
            with self.subTest(name):
                too_many(self, kind, limit, lambda: call(sketch, question))

    def fits(self, sketch, question):
        for name, call in ASKING.items():
            with self.subTest(name):
                call(sketch, question)

    def test_keys_of_the_sketch_and_the_question_together(self):
        self.fits(sample(list("abcd"), 4), sum_of("cdef"))
        self.each("keys", 6, sample(list("abcd"), 4), sum_of("defg"))
        self.each("keys", 6, sample(list("abcdef"), 6), KEYS["g"])
        self.each("keys", 6, sample(["a"], 1), sum_of("abcdefg"))

    def test_degree(self):
        self.fits(sample(["a", "b"], 1), A.power(4))
        self.fits(sample(["a", "b"], 1), Question())
        self.each("degree", 4, sample(["a", "b"], 1), A.power(5))
        self.each("degree", 4, sample(["a"], 1), A.power(5) + B)

    def test_products(self):
        # 56 products of degree 3 over six keys, 35 of degree 4 over four keys, 70 over five.
        self.fits(sample(list("abcdef"), 6), A.power(3))
        self.fits(sample(list("abcd"), 4), B.power(4))
        self.each("products", 60, sample(list("abcdef"), 6), A.power(4))
        self.each("products", 60, sample(list("abcde"), 5), A.power(4))
        self.each("products", 60, sample(["a"], 1), together("bcde", 4))
        self.fits(sample(list("abcdef"), 6), sum_of("abcdef") + 1)

    def test_the_sequence(self):
        self.each("keys", 6, sample(["a"], 1), together("bcdefg", 5))
        self.each("degree", 4, sample(["a"], 1), together("bcdef", 5))

    def test_seeds_of_copies(self):
        six, seven = (sketch_of(*[[{"a": 1}]] * many) for many in (6, 7))
        five_keys = sketch_of(*[[{key: 1 for key in "abcde"}]] * 7)
        for name, call in ASKING.items():
            with self.subTest(name):
                call(six, A * A)
                if name in COPYING:
                    too_many(self, "seeds", 6, lambda: call(seven, A))
                    too_many(self, "seeds", 6, lambda: call(seven, Question()))
                    too_many(self, "products", 60, lambda: call(five_keys, A.power(4)))
                    too_many(self, "degree", 4, lambda: call(seven, A.power(5)))
                else:
                    call(seven, A)
        self.assertEqual(unseen_base(seven), [])
        self.assertIs(is_unseen(seven, Table({"a": 1})), False)

    def test_no_limit_for_judging_rules(self):
        self.assertIs(is_rule(sample(["a"], 1), together("bcdefgh", 6), Rule({})), False)

    def test_products_are_counted(self):
        for many in range(7):
            for degree in range(5):
                self.assertEqual(product_count(many, degree), len(products_of(list("abcdef"[:many]), degree)))
        self.assertEqual(product_count(3, -1), 0)


class Several(unittest.TestCase):
    def test_two_sketches(self):
        one, other = sample(list("abcd"), 4), sample(list("cdef"), 4)
        self.assertEqual(unmatched_seeds(one, other), ["s0"])
        for call in (unmatched_seeds, answers_as_much):
            too_many(self, "keys", 6, lambda: call(one, sample(list("defg"), 4)))

    def test_degrees_that_are_passed(self):
        five, six = sample(list("abcde"), 5), sample(list("abcdef"), 6)
        self.assertEqual(len(answer_base(six, 3)), 56)
        self.assertEqual(len(answer_base(sample(list("abcd"), 4), 4)), 35)
        too_many(self, "degree", 4, lambda: answer_base(six, 5))
        too_many(self, "products", 60, lambda: answer_base(five, 4))
        too_many(self, "degree", 4, lambda: answer_base(sketch_of([]), 10 ** 25))
        too_many(self, "degree", 4, lambda: zero_base(six, 5))
        too_many(self, "products", 60, lambda: zero_base(five, 4))
        too_many(self, "products", 60, lambda: zero_base(sketch_of([{key: 1 for key in "abcde"}]), 4))
        self.assertEqual(answer_base(sketch_of([]), 4), [])

    def test_formulas(self):
        # Of at most degree 3 there are 20 products of three positions, of at most degree 4 there are 35.
        three = [{"a": 1}, {"b": 1}, {"c": 1}]
        self.assertEqual(len(zero_base(sketch_of(three, three, three), 3)), 3 * comb(6, 3) - comb(6, 3))
        too_many(self, "formulas", 60, lambda: zero_base(sketch_of(three, three, three, []), 3))
        too_many(self, "formulas", 60, lambda: zero_base(sketch_of(three, three), 4))
        self.assertEqual(len(zero_base(sketch_of(three, [{"a": 1}]), 4)), 5)
        self.assertEqual(len(zero_base(sketch_of(*[[]] * 12), 4)), 11)
        # The keys, degrees and products come ahead of the formulas.
        too_many(self, "products", 60, lambda: zero_base(sketch_of(*[[{key: 1 for key in "abcde"}] * 8] * 9), 4))

    def test_keys_of_all_questions_of_a_list(self):
        one = sample(["a", "b"], 1)
        lean(one, [C, KEYS["d"], KEYS["e"] * KEYS["f"]])
        too_many(self, "keys", 6, lambda: lean(one, [sum_of("cde"), sum_of("fg")]))
        too_many(self, "degree", 4, lambda: lean(one, [A, B.power(5), C]))
        too_many(self, "products", 60, lambda: lean(one, [A.power(4), sum_of("cde")]))
        too_many(self, "keys", 6, lambda: lean(sample(list("abcdef"), 6), [KEYS["g"], A.power(5)]))
        with self.assertRaises(InvalidQuestion):
            lean(one, [sum_of("cdefgh"), None])


class Boxes(unittest.TestCase):
    def each(self, kind, limit, sketch, question, box):
        for call in (box_rule, lambda *some: is_box_rule(*some, None), lambda s, q, b: exact_twins(s, q, box=b)):
            too_many(self, kind, limit, lambda: call(sketch, question, box))

    def test_keys_of_the_box(self):
        sketch = sample(["a", "b"], 1)
        box_rule(sketch, C, {"d": 1, "e": 0, "f": 1})
        self.each("keys", 6, sketch, C, {"d": 0, "e": 0, "f": 0, "g": 0})
        self.each("keys", 6, sketch, C.power(5), {key: 9 for key in "defgh"})

    def test_tables(self):
        sketch = sample(["a", "b"], 1)
        self.each("tables", 81, sketch, A, {"a": 81})
        self.each("tables", 81, sketch, A, {key: 2 for key in "abcde"})
        self.each("tables", 81, sketch, A.power(5), {"a": 40, "b": 1})
        self.each("degree", 4, sketch, A.power(5), {"a": 80})
        self.each("products", 60, sketch, A.power(4), {"c": 0, "d": 0, "e": 0})
        box_rule(sketch, A.power(4), {"a": 80, "c": 0})

    def test_failing_sizes(self):
        two, four = sample(["a", "b"], 1), sample(list("abcd"), 4)
        failing_size(two, A * B, limit=8)
        too_many(self, "tables", 81, lambda: failing_size(two, A * B, limit=9))
        failing_size(four, A)
        too_many(self, "tables", 81, lambda: failing_size(four, A, limit=3))
        too_many(self, "tables", 81, lambda: failing_size(four, KEYS["e"]))
        failing_size(four, KEYS["e"], limit=1)
        failing_size(four, sum_of("ef"), limit=1)
        too_many(self, "tables", 81, lambda: failing_size(two, A.power(5), limit=9))
        too_many(self, "degree", 4, lambda: failing_size(two, A.power(5), limit=8))
        too_many(self, "keys", 6, lambda: failing_size(four, sum_of("efg"), limit=100))
        too_many(self, "tables", 81, lambda: failing_size(sketch_of([]), A, limit=10 ** 25))

    def test_other_errors_come_first(self):
        two = signs(["a", "b"])
        for call in (lambda: box_rule(two, sum_of("cdefg"), None), lambda: exact_twins(two, sum_of("cdefg"), box=[])):
            with self.assertRaises(InvalidBox):
                call()
        with self.assertRaises(NotPlain):
            exact_twins(two, sum_of("cdefg"))
        with self.assertRaises(InvalidCount):
            failing_size(two, sum_of("cdefg"), limit=-1)
        with self.assertRaises(InvalidCount):
            copies_rule(two, sum_of("cdefg"), -1)
        with self.assertRaises(InvalidCount):
            rule_of_copies(two, sum_of("cdefg"), 0)
        with self.assertRaises(InvalidSum):
            least_additions(two, sum_of("cdefg"), [None])


class RulesOfCopies(unittest.TestCase):
    def test_the_limits_of_copies_come_first(self):
        two, seven = sample(["a", "b"], 1), sketch_of(*[[{"a": 1}]] * 7)
        rule_of_copies(two, A, 3)
        too_many(self, "seeds", 12, lambda: rule_of_copies(two, A, 4))
        too_many(self, "sums", 8, lambda: rule_of_copies(two, A, 9))
        too_many(self, "seeds", 12, lambda: rule_of_copies(two, sum_of("abcdefg"), 4))
        too_many(self, "sums", 8, lambda: rule_of_copies(two, A.power(5), 10 ** 25))
        too_many(self, "keys", 6, lambda: rule_of_copies(two, together("abcdefg", 5), 3))
        too_many(self, "seeds", 12, lambda: rule_of_copies(seven, A, 2))
        too_many(self, "seeds", 6, lambda: rule_of_copies(seven, A, 1))


if __name__ == "__main__":
    unittest.main()
