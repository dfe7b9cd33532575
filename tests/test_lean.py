"""Lean sketches and additions: points 30 and 31."""

import unittest
from itertools import combinations

from made import cases, is_answered, notes_of, sample, signs, sketch_of, some_keys, some_question, some_sketch
from notesums.answers import can_answer
from notesums.errors import InvalidCount, InvalidQuestion, InvalidSum, UnknownSeed
from notesums.lean import lean, least_additions, with_sums, without_sum
from notesums.notes import Note
from notesums.questions import Question
from notesums.ratios import Ratio
from notesums.sketches import Sketch
from notesums.tables import Table
from wrong import NO_INTEGERS, NO_NAMES, Odd, position_of, refused, too_many

NOTHING = Question()
A, B, C = (Question.of_key(key) for key in "abc")
COIN, APART = signs(["a", "b"]), sample(["a", "b"], 1)
NO_LISTS = [None, True, 0, 1, "", "a", {}, {"a": 1}, {"a"}, Odd(), COIN, A, Ratio(1), Table()]
NO_SUMS = [None, True, 0, "a", [], (), {"a": True}, {"a": None}, {"": 1}, {1: 1}, Odd(), A, Table({"a": 1}), Note([])]


def gone_through(sketch, questions):
    """The lean sketch, sum by sum as point 30 says."""
    answered = [question for question in questions if is_answered(notes_of(sketch), question)]
    for seed in sketch.seeds():
        for position in reversed(range(len(sketch.note(seed)))):
            fewer = without_sum(sketch, seed, position)
            if all(is_answered(notes_of(fewer), question) for question in answered):
                sketch = fewer
    return sketch


class Without(unittest.TestCase):
    def test_written_out(self):
        sketch = sketch_of([{"a": 1}, {"b": 1}, {"c": 1}], [{"a": 1}], weights=[Ratio(1, 3), Ratio(2, 3)])
        found = without_sum(sketch, "s0", 1)
        self.assertEqual(found, sketch_of([{"a": 1}, {"c": 1}], [{"a": 1}], weights=[Ratio(1, 3), Ratio(2, 3)]))
        self.assertEqual(without_sum(sketch=sketch, seed="s1", position=0).note("s1"), Note([]))
        self.assertEqual(without_sum(sketch, "s0", 0).note("s0").sums(), [{"b": 1}, {"c": 1}])
        self.assertEqual(without_sum(sketch, "s0", 2).note("s0").sums(), [{"a": 1}, {"b": 1}])
        self.assertEqual(len(sketch.note("s0")), 3)

    def test_wrong_values(self):
        for seed in NO_NAMES + ["s2", "x", COIN]:
            refused(self, UnknownSeed, [seed], lambda value: without_sum(COIN, value, 0))
            refused(self, UnknownSeed, [seed], lambda value: without_sum(COIN, value, None))
        refused(self, InvalidCount, NO_INTEGERS + [-1, 1, 2, 10 ** 25, Ratio(0)], lambda at: without_sum(COIN, "s1", at))
        refused(self, InvalidCount, [0, 1, None], lambda at: without_sum(sketch_of([]), "s0", at))


class WithSums(unittest.TestCase):
    def test_written_out(self):
        sketch = sketch_of([{"a": 1}], [])
        found = with_sums(sketch, [{"b": 1, "c": 0}, {}])
        self.assertEqual([note.sums() for _, _, note in found.walk()], [[{"a": 1}, {"b": 1}, {}], [{"b": 1}, {}]])
        self.assertEqual(with_sums(sketch=sketch, sums=({"a": 2},)), with_sums(sketch, [{"a": 2}]))
        self.assertEqual(with_sums(sketch, []), sketch)
        self.assertEqual(found.weight("s0"), Ratio(1, 2))

    def test_wrong_sums(self):
        for value in NO_LISTS:
            self.assertIsNone(position_of(self, InvalidSum, lambda: with_sums(COIN, value)))
            self.assertIsNone(position_of(self, InvalidSum, lambda: least_additions(COIN, A, value)))
        for row in NO_SUMS:
            self.assertEqual(position_of(self, InvalidSum, lambda: with_sums(COIN, [{}, row, None])), 1)
            self.assertEqual(position_of(self, InvalidSum, lambda: least_additions(COIN, A, [row])), 0)
            self.assertEqual(position_of(self, InvalidSum, lambda: least_additions(COIN, A.power(5), [{}] * 9 + [row])), 9)

    def test_too_many(self):
        self.assertEqual(len(with_sums(COIN, [{}] * 7).note("s0")), 8)
        too_many(self, "sums", 8, lambda: with_sums(COIN, [{}] * 8))
        too_many(self, "sums", 8, lambda: with_sums(sketch_of([], [{}] * 5), [{key: 1} for key in "uvwx"]))
        too_many(self, "sums", 8, lambda: with_sums(sketch_of([]), [{}] * 9))
        too_many(self, "keys", 6, lambda: with_sums(COIN, [{key: 1 for key in "cdefg"}]))
        self.assertEqual(with_sums(COIN, [{"c": 1, "d": 1, "e": 1, "f": 1, "g": 0}]).used_keys(), list("abcdef"))


class Lean(unittest.TestCase):
    def test_written_out(self):
        both = Note.of_keys("a", "b")
        sketch = sketch_of(both, both, [{"a": 1}], weights=[Ratio(1, 2), Ratio(1, 3), Ratio(1, 6)])
        found = lean(sketch, [A * B])
        self.assertEqual([len(note) for _, _, note in found.walk()], [0, 2, 0])
        self.assertEqual([weight for _, weight, _ in found.walk()], [weight for _, weight, _ in sketch.walk()])
        self.assertEqual([note.sums() for _, _, note in lean(sketch, [A, B]).walk()], [[], [{"b": 1}], [{"a": 1}]])
        self.assertEqual([note.sums() for _, _, note in lean(sketch, [B]).walk()], [[], [{"b": 1}], []])

    def test_from_the_last_sum_to_the_first(self):
        sketch = sketch_of([{"a": 1}, {"a": 2}, {"b": 1}, {"a": 1, "b": 1}])
        self.assertEqual(lean(sketch, [A]).note("s0").sums(), [{"a": 1}])
        self.assertEqual(lean(sketch, [A + B]).note("s0").sums(), [{"a": 1}, {"b": 1}])
        self.assertEqual(lean(sketch, [B]).note("s0").sums(), [{"b": 1}])

    def test_no_question_that_is_answered(self):
        empty = sketch_of([], [])
        for questions in ([], (), [A * A], [C, A * B * B], [NOTHING], [Question.constant(4)]):
            self.assertEqual(lean(COIN, questions), empty)
        self.assertEqual(lean(sketch_of([{"a": 1}]), [Question.constant(4), B]), sketch_of([]))

    def test_against_going_through_the_sums(self):
        for chance in cases(1, 120):
            keys = some_keys(chance, 3)
            sketch = some_sketch(chance, keys, 3, 3)
            questions = [some_question(chance, keys, 2, 2) for _ in range(chance.randint(0, 3))]
            found = lean(sketch=sketch, questions=questions)
            self.assertEqual(found, gone_through(sketch, questions))
            for question in questions:
                self.assertEqual(can_answer(found, question), can_answer(sketch, question))
            self.assertEqual(lean(sketch, questions[::-1] + questions), found)
            self.assertEqual(lean(found, questions), found)

    def test_what_is_no_list_of_questions(self):
        refused(self, InvalidQuestion, NO_LISTS, lambda value: lean(COIN, value))
        for value in [None, True, 0, 1, "a", [], {}, Odd(), COIN, Ratio(1), Table({"a": 1})]:
            refused(self, InvalidQuestion, [value], lambda wrong: lean(COIN, [wrong]))
            refused(self, InvalidQuestion, [value], lambda wrong: lean(COIN, (A.power(5), wrong, "z")))

    def test_near_the_limits(self):
        for chance in cases(2, 2):
            keys = list("abcdef")
            notes = [[{key: chance.randint(-2, 2) for key in keys} for _ in range(3)] for _ in range(12)]
            question, sketch = some_question(chance, keys, 3, 20), sketch_of(*notes)
            found = lean(sketch, [question, A, B * C])
            self.assertTrue(can_answer(found, question))
            self.assertLess(sum(len(note) for _, _, note in found.walk()), 36)


class Additions(unittest.TestCase):
    def test_written_out(self):
        sums = [{"b": 1}, {"a": 1, "b": 1}, {}, {"a": 1}]
        self.assertEqual(least_additions(APART, A * B, sums), [(0,), (1,), (3,)])
        self.assertEqual(least_additions(APART, A * A, sums), [()])
        self.assertEqual(least_additions(APART, C, sums), [])
        self.assertEqual(least_additions(sketch=sketch_of([]), question=A, sums=tuple(sums)), [(3,), (0, 1)])
        self.assertEqual(least_additions(sketch_of([]), NOTHING, []), [()])
        self.assertEqual(least_additions(sketch_of([]), A, []), [])

    def test_all_sets_of_positions(self):
        for chance in cases(3, 100):
            keys = some_keys(chance, 3)
            sketch, question = some_sketch(chance, keys, 2, 2), some_question(chance, keys, 2, 2)
            sums = [{key: chance.randint(-1, 1) for key in keys} for _ in range(chance.randint(0, 4))]
            answered = [some for size in range(len(sums) + 1) for some in combinations(range(len(sums)), size)
                        if is_answered(notes_of(with_sums(sketch, [sums[at] for at in some])), question)]
            least = [some for some in answered if not any(set(less) < set(some) for less in answered)]
            self.assertEqual(least_additions(sketch, question, sums), least)

    def test_near_the_limits(self):
        keys = list("abcdef")
        sketch = sketch_of(*[[{"f": 1, "a": at}] for at in range(12)])
        sums = [{key: 1} for key in keys] + [{"b": 1, "c": 1}]
        found = least_additions(sketch, A * B * C, sums)
        self.assertEqual(found, [(1, 2), (1, 6), (2, 6)])
        for some in found:
            self.assertTrue(can_answer(with_sums(sketch, [sums[at] for at in some]), A * B * C))

    def test_too_many(self):
        too_many(self, "sums", 8, lambda: least_additions(COIN, A, [{}] * 8))
        too_many(self, "sums", 8, lambda: least_additions(sketch_of([], [{}] * 6), A, [{"z": 1}] * 3))
        too_many(self, "keys", 6, lambda: least_additions(COIN, C, [{key: 1 for key in "defg"}]))
        too_many(self, "keys", 6, lambda: least_additions(COIN, A.power(5), [{key: 1 for key in "cdefg"}]))
        too_many(self, "degree", 4, lambda: least_additions(COIN, A.power(5), []))
        too_many(self, "products", 60, lambda: least_additions(COIN, A.power(4), [{key: 1 for key in "cde"}]))
        self.assertEqual(least_additions(COIN, A * A * C, [{key: 1 for key in "cdef"}]), [])


class Listed(unittest.TestCase):
    def test_the_file(self):
        for function in (lean, least_additions, with_sums, without_sum):
            self.assertEqual(function.__module__, "notesums.lean")
        self.assertIs(type(lean(COIN, [])), Sketch)


if __name__ == "__main__":
    unittest.main()
