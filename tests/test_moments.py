"""Moment twins: point 17, and A RULE OR TWINS of point 4."""

import unittest
from fractions import Fraction
from itertools import combinations_with_replacement

from made import cases, fraction, sample, signs, sketch_of, some_keys, some_question, some_sketch, sum_of_counts
from notesums.answers import can_answer
from notesums.moments import is_moment_twins, moment_twins
from notesums.notes import Note
from notesums.questions import Question
from notesums.ratios import Ratio
from notesums.rules import Rule
from notesums.tables import Table
from wrong import NO_INTEGERS, NO_NAMES, Odd

NOTHING = Question()
A, B, C = (Question.of_key(key) for key in "abc")
COIN, APART = signs(["a", "b"]), sample(["a", "b"], 1)
ONE = [(Table({"a": 1, "b": 1}), 1), (Table(), 1)]
OTHER = [(Table({"a": 1}), 1), (Table({"b": 1}), 1)]


def counted(sketch, question, value):
    """Whether two lists are moment twins, by counting what is shown."""
    one, other = value
    for _, _, note in sketch.walk():
        for degree in range(question.degree + 1):
            for positions in combinations_with_replacement(range(len(note)), degree):
                sums = []
                for pairs in (one, other):
                    total = Fraction(0)
                    for table, weight in pairs:
                        shown, product = note.shows(table), fraction(weight)
                        for position in positions:
                            product *= shown[position]
                        total += product
                    sums.append(total)
                if sums[0] != sums[1]:
                    return False
    values = [sum((fraction(w) * fraction(question.at(t)) for t, w in pairs), Fraction(0)) for pairs in (one, other)]
    return values[0] != values[1]


class Finding(unittest.TestCase):
    def test_either_a_rule_or_twins(self):
        for chance in cases(1, 200):
            keys = some_keys(chance, 3)
            sketch = some_sketch(chance, keys, 4, 2)
            question = some_question(chance, keys + ["z"][:chance.randint(0, 1)], 3, 4)
            twins = moment_twins(sketch, question)
            self.assertEqual(twins is None, can_answer(sketch, question))
            if twins is not None:
                self.assertIs(type(twins), tuple)
                self.assertEqual([type(pairs) for pairs in twins], [list, list])
                self.assertTrue(counted(sketch, question, twins))
                self.assertIs(is_moment_twins(sketch, question, twins), True)
                self.assertEqual(moment_twins(sketch=sketch, question=question), twins)
                for table, weight in twins[0] + twins[1]:
                    self.assertTrue(table.is_plain)
                    self.assertLessEqual(sum_of_counts(table), question.degree)
                    self.assertGreater(fraction(weight), 0)

    def test_degree_4(self):
        for chance in cases(2, 12):
            keys = some_keys(chance, 2)
            sketch, question = some_sketch(chance, keys, 3, 1), some_question(chance, keys, 4, 5)
            twins = moment_twins(sketch, question)
            self.assertEqual(twins is None, can_answer(sketch, question))
            self.assertTrue(twins is None or counted(sketch, question, twins))

    def test_a_lesser_degree_that_fails(self):
        # The part of degree 3 is answered, that of degree 1 is not.
        sketch, question = sketch_of([{"a": 1}]), A.power(3) + B
        twins = moment_twins(sketch, question)
        self.assertTrue(counted(sketch, question, twins))
        self.assertIs(is_moment_twins(sketch, question, twins), True)
        self.assertFalse(counted(sketch, A.power(3), twins))

    def test_what_is_always_answered(self):
        for question in (NOTHING, Question.constant(3)):
            self.assertIsNone(moment_twins(sketch_of([]), question))
            self.assertIs(is_moment_twins(sketch_of([]), question, (ONE, OTHER)), False)
            self.assertIs(is_moment_twins(sketch_of([]), question, ([], ONE)), False)

    def test_near_the_limits(self):
        for chance in cases(3, 4):
            keys = list("abcdef")
            sketch = sketch_of(*[[{key: chance.randint(-2, 2) for key in keys}] for _ in range(12)])
            question = some_question(chance, keys, 3, 30)
            twins = moment_twins(sketch, question)
            self.assertTrue(twins is None or counted(sketch, question, twins))


class Judging(unittest.TestCase):
    def test_the_twins_of_the_overview(self):
        for one, other in ((ONE, OTHER), (OTHER, ONE), (ONE[::-1], OTHER), (tuple(ONE), tuple(OTHER))):
            self.assertIs(is_moment_twins(APART, A * B, (one, other)), True)
        self.assertIs(is_moment_twins(sketch=APART, question=A * B, value=(ONE, OTHER)), True)
        self.assertIs(is_moment_twins(APART, A * B + A, (ONE, OTHER)), True)
        self.assertIs(is_moment_twins(APART, A, (ONE, OTHER)), False)
        self.assertIs(is_moment_twins(COIN, A * A, (ONE, OTHER)), False)
        self.assertIs(is_moment_twins(APART, A * A * B, (ONE, OTHER)), True)

    def test_weights_multiplied(self):
        for many in (2, Ratio(1, 3), Ratio(7, 2)):
            pairs = ([(t, Ratio(w) * many) for t, w in ONE], [(t, Ratio(w) * many) for t, w in OTHER])
            self.assertIs(is_moment_twins(APART, A * B, pairs), True)
            self.assertIs(is_moment_twins(APART, A * B, (pairs[0], OTHER)), False)

    def test_tables_put_in_and_taken_out(self):
        more = (Table({"a": 5, "b": -2}), Ratio(1, 7))
        self.assertIs(is_moment_twins(APART, A * B, (ONE + [more], OTHER + [more])), True)
        self.assertIs(is_moment_twins(APART, A * B, (ONE + [more], OTHER)), False)
        self.assertIs(is_moment_twins(APART, A * B, (ONE[:1], OTHER)), False)
        self.assertIs(is_moment_twins(APART, A * B, (ONE, OTHER[1:])), False)
        self.assertIs(is_moment_twins(APART, A * B, (ONE, ONE)), False)
        self.assertIs(is_moment_twins(APART, A * B, ([], [])), False)
        self.assertIs(is_moment_twins(APART, A * B, (ONE, OTHER + [(Table({"z": 3}), 1)])), False)

    def test_the_empty_product_counts(self):
        self.assertIs(is_moment_twins(sketch_of([]), A, ([(Table({"a": 1}), 1)], [])), False)
        self.assertIs(is_moment_twins(sketch_of([]), A, ([(Table({"a": 1}), 1)], [(Table(), 1)])), True)

    def test_tables_that_are_not_plain(self):
        one, other = [(Table({"a": -1, "b": -1}), 1), (Table(), 1)], [(Table({"a": -1}), 1), (Table({"b": -1}), 1)]
        self.assertIs(is_moment_twins(APART, A * B, (one, other)), True)

    def test_other_keys_of_tables(self):
        one = [(Table({"a": 1, "b": 1, "z": 4}), 1), (Table({"y": 1}), 1)]
        self.assertIs(is_moment_twins(APART, A * B, (one, OTHER)), True)
        self.assertIs(is_moment_twins(APART, A * B * C, (one, OTHER)), False)

    def test_all_degrees_up_to_that_of_the_question_count(self):
        # The numbers shown have equal sums, but their squares have not.
        one, other = [(Table({"a": 2}), 1), (Table(), 1)], [(Table({"a": 1}), 2)]
        self.assertIs(is_moment_twins(sketch_of([{"a": 1}]), A * A, (one, other)), False)
        self.assertIs(is_moment_twins(sketch_of([{"b": 1}]), A * A, (one, other)), True)
        self.assertIs(is_moment_twins(sketch_of([{"b": 1}]), A, (one, other)), False)
        # Two positions of one note count together.
        self.assertIs(is_moment_twins(sketch_of([{"a": 1}, {"b": 1}]), A * B, (ONE, OTHER)), False)
        self.assertIs(is_moment_twins(sketch_of([{"a": 1}, {"b": 1}], [{"a": 1}]), A * B * B, (ONE, OTHER)), False)

    def test_any_lists(self):
        for chance in cases(4, 120):
            keys = some_keys(chance, 2)
            sketch, question = some_sketch(chance, keys, 3, 2), some_question(chance, keys, 2, 3)
            found = moment_twins(sketch, question)
            one = {repr(t): (t, w) for t, w in (found[0] if found else ONE)}
            other = {repr(t): (t, w) for t, w in (found[1] if found else OTHER)}
            if chance.random() < 0.6:
                table = Table({key: chance.randint(-2, 2) for key in keys})
                one[repr(table)] = (table, Ratio(chance.randint(1, 3), chance.randint(1, 3)))
                if chance.random() < 0.5:
                    other[repr(table)] = one[repr(table)]
            value = (list(one.values()), list(other.values()))
            self.assertIs(is_moment_twins(sketch, question, value), counted(sketch, question, value))

    def test_values_of_other_kinds(self):
        table = Table({"a": 1, "b": 1})
        wrong = NO_NAMES + NO_INTEGERS + [
            [ONE, OTHER], (ONE,), (ONE, OTHER, []), (ONE, None), (None, OTHER), (ONE, {}), ({}, {}), (ONE, "ab"),
            (ONE, OTHER + [None]), (ONE, [[table, 1]]), ([(table,)], OTHER), ([(table, 1, 1)], OTHER), A, COIN,
            ([(table, 1), (Table(), True)], OTHER), ([(table, 1), (Table(), 0)], OTHER), Rule({}), Note([]),
            ([(table, 1), (Table(), -1)], OTHER), ([(table, 1), (Table(), Ratio(-1))], OTHER), (A, B), Odd(),
            ([(table, 1), ({}, 1)], OTHER), ([(table, 1), (None, 1)], OTHER), ([(1, table)], OTHER),
            ([(table, 1), (Table(), Ratio(1, 2)), (Table({"c": 0}), Ratio(1, 2))], OTHER), (ONE, OTHER + OTHER),
            ([(table, "1"), (Table(), 1)], OTHER), ([(table, None)], OTHER), (1, 2), ("", ""), ((), ()),
        ]
        for value in wrong:
            self.assertIs(is_moment_twins(APART, A * B, value), False, value)


class Listed(unittest.TestCase):
    def test_the_file(self):
        for function in (moment_twins, is_moment_twins):
            self.assertEqual(function.__module__, "notesums.moments")


if __name__ == "__main__":
    unittest.main()
