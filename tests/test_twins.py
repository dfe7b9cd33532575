"""Exact twins: points 20 to 23."""

import unittest
from collections import Counter

from made import cases, fraction, sample, signs, sketch_of, some_keys, some_question, some_sketch, sum_of_counts
from notesums.answers import can_answer
from notesums.boxes import box_tables
from notesums.errors import InvalidBox, InvalidCount, InvalidStack, InvalidTable, NotPlain
from notesums.notes import Note
from notesums.questions import Question
from notesums.ratios import Ratio
from notesums.rules import Rule
from notesums.tables import Table
from notesums.twins import exact_twins, failing_size, is_stack, is_twins, moved_stack, parting_seeds, thinned
from wrong import NO_INTEGERS, NO_NAMES, Odd, refused

NOTHING = Question()
A, B, C = (Question.of_key(key) for key in "abc")
COIN, APART = signs(["a", "b"]), sample(["a", "b"], 1)
T0, TA, TB, TAB = (Table(counts) for counts in ({}, {"a": 1}, {"b": 1}, {"a": 1, "b": 1}))
ONE, OTHER = [(TAB, 1), (T0, 1)], [(TA, 1), (TB, 1)]
NO_STACKS = [value for value in NO_NAMES + NO_INTEGERS if value not in ([], ())] + [
    A, COIN, Table(), Rule({}), Note([]), Ratio(1), [TA], (TA, 1), [(TA,)], [(TA, 1, 1)], [[TA, 1]], [(1, TA)], [None],
    [(TA, 0)], [(TA, -1)], [(TA, True)], [(TA, Ratio(1))], [(TA, None)], [(TA, "1")], [({"a": 1}, 1)], [(None, 1)],
    [(Table({"a": -1}), 1)], [(TAB, 1), (Table({"a": 2, "b": -1}), 1)], [(TA, 1), (TA, 1)], [("a", 1)],
    [(TA, 1), (TB, 1), (Table({"a": 1, "b": 0}), 2)], [(TA, 1), 5], {TAB.__class__: 1}, [(COIN, 1)],
]


def some_stack(chance, keys, tables=4):
    """Any stack."""
    found = {}
    for _ in range(chance.randint(0, tables)):
        table = Table({key: chance.randint(0, 2) for key in keys})
        found[repr(table)] = (table, chance.randint(1, 3))
    return list(found.values())


def counter(note, stack):
    """How often what is shown for a stack, table by table."""
    return Counter([note.shows(table) for table, times in stack for _ in range(times)])


def value(question, stack):
    """The sum of the values of a question over a stack, table by table."""
    return sum(fraction(question.at(table)) for table, times in stack for _ in range(times))


def counted(sketch, question, pair):
    """Whether two stacks are exact twins, by counting."""
    one, other = pair
    alike = all(counter(note, one) == counter(note, other) for _, _, note in sketch.walk())
    return alike and value(question, one) != value(question, other)


def is_thin(one, other):
    """Whether two stacks have no table in common."""
    return not any(table == also for table, _ in one for also, _ in other)


class Stacks(unittest.TestCase):
    def test_is_stack(self):
        for stack in ([], (), ONE, OTHER, tuple(ONE), [(TA, 10 ** 25)], [(Table({"z": 10 ** 25}), 1), (T0, 5)]):
            self.assertIs(is_stack(stack), True)
            self.assertIs(is_stack(value=stack), True)
        for stack in NO_STACKS:
            self.assertIs(is_stack(stack), False, stack)

    def test_parting_seeds(self):
        self.assertEqual(parting_seeds(APART, ONE, OTHER), [])
        self.assertEqual(parting_seeds(COIN, ONE, OTHER), ["s0", "s1"])
        self.assertEqual(parting_seeds(sketch=APART, one=[(TA, 1)], other=[(TAB, 1)]), ["s1"])
        self.assertEqual(parting_seeds(sketch_of([], []), [(TA, 2)], [(TB, 1), (T0, 1)]), [])
        self.assertEqual(parting_seeds(sketch_of([], []), [(TA, 2)], [(TB, 1)]), ["s0", "s1"])
        self.assertEqual(parting_seeds(COIN, [], []), [])
        self.assertEqual(parting_seeds(COIN, [], [(T0, 1)]), ["s0", "s1"])
        self.assertEqual(parting_seeds(COIN, ONE, ONE[::-1]), [])

    def test_parting_seeds_by_counting(self):
        for chance in cases(1, 150):
            keys = some_keys(chance, 2)
            sketch = some_sketch(chance, keys, 4, 1)
            one, other = some_stack(chance, keys), some_stack(chance, keys)
            expected = [name for name, _, note in sketch.walk() if counter(note, one) != counter(note, other)]
            self.assertEqual(parting_seeds(sketch, one, other), expected)

    def test_thinned_written_out(self):
        one, other = [(TA, 3), (TB, 1), (T0, 2)], [(T0, 2), (TAB, 1), (TA, 1), (TB, 4)]
        self.assertEqual(thinned(one, other), ([(TA, 2)], [(TAB, 1), (TB, 3)]))
        self.assertEqual(thinned(one=one, other=one), ([], []))
        self.assertEqual(thinned(tuple(ONE), OTHER), (ONE, OTHER))
        self.assertEqual(thinned([], ONE), ([], ONE))
        self.assertEqual([type(part) for part in thinned((), ())], [list, list])
        self.assertEqual(one, [(TA, 3), (TB, 1), (T0, 2)])

    def test_thinned_and_moved(self):
        for chance in cases(2, 100):
            keys = some_keys(chance, 2)
            sketch, question = some_sketch(chance, keys, 3, 2), some_question(chance, keys, 2, 3)
            one, other = some_stack(chance, keys), some_stack(chance, keys)
            parting = parting_seeds(sketch, one, other)
            thin = thinned(one, other)
            self.assertTrue(is_thin(*thin))
            self.assertEqual(parting_seeds(sketch, *thin), parting)
            self.assertEqual(value(question, thin[0]) - value(question, thin[1]),
                             value(question, one) - value(question, other))
            for before, after in ((one, thin[0]), (other, thin[1])):
                tables = [table for table, _ in before]
                self.assertEqual([t for t in tables if t in [u for u, _ in after]], [table for table, _ in after])
            table = Table({key: chance.randint(0, 2) for key in keys})
            moved = moved_stack(one, table), moved_stack(other, table)
            self.assertEqual(parting_seeds(sketch, *moved), parting)
            self.assertEqual(value(question.moved(-table), moved[0]), value(question, one))

    def test_moved_stack(self):
        self.assertEqual(moved_stack(ONE, TA), [(Table({"a": 2, "b": 1}), 1), (TA, 1)])
        self.assertEqual(moved_stack(stack=((TB, 4),), table=Table({"z": 2})), [(Table({"b": 1, "z": 2}), 4)])
        self.assertEqual(moved_stack([], TA), [])
        self.assertEqual(moved_stack(ONE, T0), ONE)

    def test_moved_twins_are_twins_for_the_moved_question(self):
        twins = exact_twins(APART, A * B)
        moved = tuple(moved_stack(stack, Table({"a": 3, "b": 1})) for stack in twins)
        self.assertIs(is_twins(APART, (A * B).moved(Table({"a": -3, "b": -1})), moved), True)

    def test_what_is_no_stack(self):
        refused(self, InvalidStack, NO_STACKS, lambda stack: parting_seeds(COIN, stack, None))
        refused(self, InvalidStack, NO_STACKS, lambda stack: parting_seeds(COIN, ONE, stack))
        refused(self, InvalidStack, NO_STACKS, lambda stack: thinned(stack, None))
        refused(self, InvalidStack, NO_STACKS, lambda stack: thinned(ONE, stack))
        refused(self, InvalidStack, NO_STACKS, lambda stack: moved_stack(stack, None))

    def test_what_is_no_plain_table(self):
        wrong = [None, True, 0, {}, {"a": 1}, [], "a", Odd(), COIN, Table({"a": -1}), Table({"a": 5, "b": -1})]
        refused(self, InvalidTable, wrong, lambda table: moved_stack(ONE, table))
        refused(self, InvalidTable, wrong, lambda table: moved_stack([], table))


class InBoxes(unittest.TestCase):
    def test_the_document(self):
        one, other = exact_twins(APART, A * B, box={"a": 1, "b": 1})
        self.assertEqual(sorted([len(one), len(other)]), [2, 2])
        self.assertIsNone(exact_twins(APART, A * B, box={"a": 1}))

    def test_in_the_box_and_thinned(self):
        for chance in cases(3, 200):
            keys = some_keys(chance, 3)
            sketch = some_sketch(chance, keys, 4, 2)
            question = some_question(chance, keys + ["z"], 3, 4)
            box = {key: chance.randint(0, 2) for key in chance.sample(keys + ["z"], chance.randint(0, len(keys)))}
            twins = exact_twins(sketch=sketch, question=question, box=box)
            if twins is not None:
                self.assertIs(type(twins), tuple)
                self.assertTrue(is_stack(twins[0]) and is_stack(twins[1]) and is_thin(*twins))
                self.assertEqual([type(stack) for stack in twins], [list, list])
                self.assertTrue(counted(sketch, question, twins))
                tables = list(box_tables(box))
                self.assertTrue(all(table in tables for stack in twins for table, _ in stack))
                self.assertFalse(can_answer(sketch, question))
                greater = {key: most + 1 for key, most in box.items()}
                if len(list(box)) < 3:
                    self.assertIsNotNone(exact_twins(sketch, question, box=greater))

    def test_wrong_boxes(self):
        wrong = [True, False, 0, 1, "a", [], (), {"a"}, Odd(), A, Table(), {"a": -1}, {"a": True}, {"A": 1}, {1: 1}]
        refused(self, InvalidBox, wrong, lambda box: exact_twins(APART, A * B, box=box))
        refused(self, InvalidBox, wrong, lambda box: exact_twins(COIN, A * A, box=box))

    def test_by_name_only(self):
        with self.assertRaises(TypeError):
            exact_twins(APART, A * B, {"a": 1})
        with self.assertRaises(TypeError):
            failing_size(APART, A * B, 2)


class WithoutABox(unittest.TestCase):
    def test_plain_sketches(self):
        for chance in cases(4, 200):
            keys = some_keys(chance, 3)
            sketch = some_sketch(chance, keys, 4, plain=True)
            question = some_question(chance, keys + ["z"][:chance.randint(0, 1)], 3, 4)
            twins = exact_twins(sketch, question)
            self.assertEqual(twins is None, can_answer(sketch, question))
            if twins is not None:
                self.assertTrue(counted(sketch, question, twins) and is_thin(*twins))
                self.assertIs(is_twins(sketch, question, twins), True)
                self.assertEqual(exact_twins(sketch, question, box=None), twins)
                self.assertTrue(all(sum_of_counts(t) <= question.degree for stack in twins for t, _ in stack))

    def test_not_plain(self):
        for sketch, name in (
            (COIN, "s1"), (sketch_of([{"a": 1}], [{"b": 2}], [{"a": -1}]), "s1"), (sketch_of([{"a": 1}, {"a": 1}]), "s0"),
        ):
            for question in (NOTHING, A * B):
                with self.assertRaises(NotPlain) as held:
                    exact_twins(sketch, question)
                self.assertEqual(held.exception.name, name)
            exact_twins(sketch, A * B, box={"a": 1})

    def test_nothing(self):
        for question in (NOTHING, Question.constant(2)):
            self.assertIsNone(exact_twins(APART, question))
            self.assertIsNone(exact_twins(sketch_of([]), question))
            self.assertIsNone(exact_twins(sketch_of([]), question, box={"a": 3}))

    def test_degree_4(self):
        sketch = sample(list("abcd"), 2)
        question = A * B * C * Question.of_key("d")
        twins = exact_twins(sketch, question)
        self.assertTrue(counted(sketch, question, twins))
        self.assertIsNone(exact_twins(sketch, A * A * B * B + C.power(4)))


class Judging(unittest.TestCase):
    def test_right_ones(self):
        for pair in ((ONE, OTHER), (OTHER, ONE), (tuple(ONE), tuple(OTHER))):
            self.assertIs(is_twins(APART, A * B, pair), True)
        self.assertIs(is_twins(sketch=APART, question=A * B + A, value=(ONE + [(TA, 1)], OTHER[1:] + [(TA, 2)])), True)
        self.assertIs(is_twins(sketch_of([{"b": 1}]), A, ([(TA, 1)], [(T0, 1)])), True)
        self.assertIs(is_twins(sketch_of([]), A, ([(Table({"a": 7, "z": 1}), 2)], [(T0, 1), (TB, 1)])), True)

    def test_wrong_ones(self):
        for pair in ((ONE, ONE), ([], []), (ONE, OTHER[:1]), (ONE, [(TA, 1), (TB, 2)]), (ONE, OTHER + [(T0, 1)])):
            self.assertIs(is_twins(APART, A * B, pair), False)
        self.assertIs(is_twins(COIN, A * B, (ONE, OTHER)), False)
        self.assertIs(is_twins(APART, A + B, (ONE, OTHER)), False)
        self.assertIs(is_twins(sketch_of([]), A, ([(TA, 1)], [])), False)
        self.assertIs(is_twins(sketch_of([]), NOTHING, ([(TA, 1)], [(T0, 1)])), False)

    def test_by_counting(self):
        for chance in cases(5, 200):
            keys = some_keys(chance, 2)
            sketch, question = some_sketch(chance, keys, 2, 1), some_question(chance, keys, 2, 3)
            pair = some_stack(chance, keys, 2), some_stack(chance, keys, 2)
            self.assertIs(is_twins(sketch, question, pair), counted(sketch, question, pair))

    def test_values_of_other_kinds(self):
        for stack in NO_STACKS:
            self.assertIs(is_twins(APART, A * B, (ONE, stack)), False)
            self.assertIs(is_twins(APART, A * B, (stack, OTHER)), False)
            self.assertIs(is_twins(APART, A * B, stack), False)
        for pair in ([ONE, OTHER], (ONE,), (ONE, OTHER, []), (), (None, None), {1: ONE, 2: OTHER}):
            self.assertIs(is_twins(APART, A * B, pair), False)


class FailingSizes(unittest.TestCase):
    def test_the_document(self):
        self.assertEqual(failing_size(APART, A * B, limit=3), 1)
        self.assertIsNone(failing_size(COIN, A * B))

    def test_limits(self):
        # With counts up to 1 the sum of a and 2 * b tells both.
        sketch = sketch_of([{"a": 1, "b": 2}])
        self.assertEqual([failing_size(sketch, A * A, limit=limit) for limit in range(4)], [None, None, 2, 2])
        self.assertEqual(failing_size(sketch=sketch, question=A * A), 2)
        deeper = sketch_of([{"a": 1, "b": 3}])
        self.assertEqual([failing_size(deeper, A, limit=limit) for limit in (0, 1, 2, 3, 8)], [None, None, None, 3, 3])
        self.assertIsNone(failing_size(deeper, A))

    def test_without_keys(self):
        for question in (NOTHING, Question.constant(5)):
            for limit in (0, 2, 100, 10 ** 25):
                self.assertIsNone(failing_size(sketch_of([]), question, limit=limit))

    def test_keys_of_the_question(self):
        self.assertEqual(failing_size(sketch_of([{"a": 1}]), C), 1)
        self.assertEqual(failing_size(sketch_of([]), A, limit=80), 1)
        self.assertIsNone(failing_size(sketch_of([{"a": 1}]), A.power(3), limit=80))

    def test_the_least_size(self):
        for chance in cases(6, 80):
            keys = some_keys(chance, 2)
            sketch, question = some_sketch(chance, keys, 3, 1), some_question(chance, keys, 2, 3)
            sizes = [exact_twins(sketch, question, box={k: size for k in {*sketch.used_keys(), *question.used_keys()}})
                     for size in range(4)]
            for limit in range(4):
                expected = [size for size in range(limit + 1) if sizes[size] is not None][:1] or [None]
                self.assertEqual(failing_size(sketch, question, limit=limit), expected[0])

    def test_what_is_no_count(self):
        refused(self, InvalidCount, NO_INTEGERS + [-1, Ratio(1)], lambda limit: failing_size(APART, A, limit=limit))


class Listed(unittest.TestCase):
    def test_the_file(self):
        for function in (is_stack, parting_seeds, thinned, moved_stack, exact_twins, is_twins, failing_size):
            self.assertEqual(function.__module__, "notesums.twins")


if __name__ == "__main__":
    unittest.main()
