"""Two tables that share a seed: point 26."""

import unittest

from made import cases, fraction, named, notes_of, products_of_sums, ratio, reduced, sketch_of, some_keys, some_sketch
from made import weights_of
from notesums.answers import answer_base, can_answer, remainder
from notesums.errors import InvalidNames
from notesums.makers import buckets, sample, signs
from notesums.notes import Note
from notesums.questions import Question
from notesums.ratios import Ratio
from notesums.sketches import Sketch
from notesums.tables import Table
from notesums.tying import own, tied, tied_joins, tying_loses
from wrong import NO_NAMES, Odd, refused, too_many

EACH = (tied, own, tied_joins, tying_loses)
A, B, X, Y = named("abxy")
COIN, APART = signs(["a", "b"]), sample(["a", "b"], 1)
XY = {"a": "x", "b": "y"}


def new_names(chance, keys):
    """Any new names for keys, some of them ahead of the keys in order."""
    return dict(zip(keys, chance.sample(["aa", "a0", "b1", "c2", "d9", "z", "y", "x"], len(keys))))


def joins(names):
    """The products of one old and one new key, in order."""
    return sorted(tuple(sorted((old, new))) for old in names for new in names.values())


def answered_joins(sketch, names):
    """The reduced rows of the join questions that a sketch answers, over `joins`, by an elimination of its own.

    With the other products ahead, the rows that begin with a join have nothing else.
    """
    found = [whole for sums in notes_of(sketch) for whole in products_of_sums(sums, 2)]
    last = joins(names)
    columns = sorted({keys for whole in found for keys in whole} - set(last)) + last
    rows = reduced([[whole.get(keys, 0) for keys in columns] for whole in found])
    return [row[len(columns) - len(last):] for row in rows if not any(row[:len(columns) - len(last)])]


def less(line, rows):
    """A line without what reduced rows take off."""
    for row in rows:
        lead = next(at for at, number in enumerate(row) if number)
        line = [x - line[lead] * y for x, y in zip(line, row)]
    return line


def asked_rows(rows, names):
    """Rows over `joins` as questions."""
    return [Question([(ratio(number), keys) for number, keys in zip(row, joins(names))]) for row in rows]


class Sketches(unittest.TestCase):
    def test_written_out(self):
        sketch = sketch_of([{"a": 1, "b": -2}, {}], [{"b": 3}], weights=[Ratio(1, 3), Ratio(2, 3)])
        self.assertEqual(tied(sketch, XY), sketch_of(
            [{"a": 1, "b": -2}, {}, {"x": 1, "y": -2}, {}], [{"b": 3}, {"y": 3}], weights=[Ratio(1, 3), Ratio(2, 3)]))
        self.assertEqual(own(sketch, XY), sketch_of(
            [{"a": 1, "b": -2}, {}, {"x": 1, "y": -2}, {}], [{"a": 1, "b": -2}, {}, {"y": 3}],
            [{"b": 3}, {"x": 1, "y": -2}, {}], [{"b": 3}, {"y": 3}],
            weights=[Ratio(1, 9), Ratio(2, 9), Ratio(2, 9), Ratio(4, 9)]))
        self.assertEqual(tied(names=XY, sketch=COIN), tied(COIN, XY))
        self.assertEqual(own(names=XY, sketch=COIN), own(COIN, XY))

    def test_names_of_the_seeds(self):
        sketch = Sketch([("z", Ratio(1, 2), Note.of_keys("a")), ("b", Ratio(1, 2), Note([]))])
        self.assertEqual(tied(sketch, {"a": "q"}).seeds(), ["z", "b"])
        self.assertEqual(own(sketch, {"a": "q"}).seeds(), ["s0", "s1", "s2", "s3"])

    def test_what_is_shown_for_a_table_and_a_renamed_one(self):
        for chance in cases(1, 60):
            keys = some_keys(chance, 3)
            sketch = some_sketch(chance, keys, 3, 3)
            names = new_names(chance, sketch.used_keys())
            one, other = (Table({key: chance.randint(-3, 3) for key in sketch.used_keys()}) for _ in range(2))
            both = one + other.renamed(names)
            together, apart = tied(sketch, names), own(sketch, names)
            for seed in sketch.seeds():
                self.assertEqual(together.shows(seed, both), sketch.shows(seed, one) + sketch.shows(seed, other))
                self.assertEqual(together.weight(seed), sketch.weight(seed))
            at = 0
            for first, weight, _ in sketch.walk():
                for second, more, _ in sketch.walk():
                    self.assertEqual(apart.shows(f"s{at}", both),
                            sketch.shows(first, one) + sketch.shows(second, other))
                    self.assertEqual(apart.weight(f"s{at}"), weight * more)
                    at += 1
            self.assertEqual(len(apart), at)

    def test_without_keys(self):
        for sketch in (sketch_of([]), sketch_of([{}], [{"a": 0}])):
            self.assertEqual(len(tied(sketch, {})), len(sketch))
            self.assertEqual((tied_joins(sketch, {}), tying_loses(sketch, {})), ([], []))


class Joins(unittest.TestCase):
    def test_written_out(self):
        self.assertEqual(tied_joins(APART, XY), [A * X, B * Y])
        self.assertEqual(tying_loses(APART, XY), [A * Y, B * X])
        self.assertEqual(tied_joins(COIN, XY), [A * X + B * Y, A * Y + B * X])
        self.assertEqual(tying_loses(COIN, XY), [B * X, B * Y])
        self.assertEqual(tying_loses(sketch_of([{"a": 1}]), {"a": "x"}), [])
        self.assertEqual(tied_joins(names=XY, sketch=APART), [A * X, B * Y])
        self.assertEqual(tying_loses(names=XY, sketch=APART), [A * Y, B * X])

    def test_new_names_ahead_of_the_keys(self):
        key = Question.of_key
        names = {"m": "b", "n": "z"}
        self.assertEqual(tied_joins(sample(["m", "n"], 1), names), [key("b") * key("m"), key("n") * key("z")])
        self.assertEqual(tying_loses(sample(["m", "n"], 1), names), [key("b") * key("n"), key("m") * key("z")])

    def check(self, sketch, names):
        together = answered_joins(tied(sketch, names), names)
        apart = answered_joins(own(sketch, names), names)
        self.assertEqual(tied_joins(sketch, names), asked_rows(together, names))
        lost = reduced([less(row, together) for row in apart])
        self.assertEqual(tying_loses(sketch, names), asked_rows(lost, names))
        self.assertEqual(len(together) + len(lost), len(apart))

    def test_by_an_elimination_of_the_test(self):
        for chance in cases(2, 80):
            keys = some_keys(chance, 3)
            sketch = some_sketch(chance, keys, 3, 3)
            self.check(sketch, new_names(chance, sketch.used_keys()))

    def test_sums_that_come_from_others(self):
        both = {"a": 1, "b": 1}
        self.check(sketch_of([{"a": 1}, {"b": 1}, both], [both, both, {}, {"a": 2, "b": 2}]), XY)
        self.check(sketch_of([both, {"a": 3, "b": 3}], [{"a": 1, "b": -1}, {}]), {"a": "z", "b": "a1"})
        self.assertEqual(tying_loses(sketch_of([{"a": 1}, {"b": 1}, both]), XY), [])

    def test_with_the_answers_of_the_sketches(self):
        for chance in cases(3, 30):
            sketch = some_sketch(chance, some_keys(chance, 2), 3, 2)
            names = new_names(chance, sketch.used_keys())
            together, apart = tied(sketch, names), own(sketch, names)
            base, lost = tied_joins(sketch, names), tying_loses(sketch, names)
            for question in base:
                self.assertTrue(can_answer(together, question))
                self.assertTrue(all(keys in joins(names) for _, keys in question.terms()))
            for question in lost:
                self.assertTrue(can_answer(apart, question))
                self.assertFalse(can_answer(together, question))
                self.assertEqual(remainder(together, question), question)
            self.assertEqual([one for one in answer_base(together, 2) if one in base], base)

    def test_weights_have_no_part(self):
        sketch = sketch_of([{"a": 1}], [{"b": 1}], weights=[Ratio(1, 10), Ratio(9, 10)])
        self.assertEqual(tying_loses(sketch, XY), tying_loses(APART, XY))

    def test_what_is_returned_may_be_changed(self):
        for function in (tied_joins, tying_loses):
            found = function(COIN, XY)
            found.append(found.pop(0) * 2)
            self.assertNotEqual(function(COIN, XY), found)
        self.assertEqual(XY, {"a": "x", "b": "y"})
        self.assertEqual([fraction(n) for n in weights_of(tied_joins(COIN, XY)[0]).values()], [1, 1])


class Wrong(unittest.TestCase):
    def test_names(self):
        values = [None, True, 0, 1, "", "ab", [], ["x", "y"], ("x", "y"), [("a", "x"), ("b", "y")], {"x", "y"}, Odd(),
                COIN,
                  Table({"a": 1, "b": 1}), {}, {"a": "x"}, {"a": "x", "c": "y"}, {"a": "x", "b": "y", "c": "z"},
                  {"a": "x", "b": "x"}, {"a": "b", "b": "a"}, {"a": "a", "b": "b"}, {"a": "x", "b": "a"},
                  {"a": "x", "b": "b"}, {"a": "x", "b": 1}, {"a": "x", "b": True}, {"a": "x", 1: "y"}, {"a": X, "b": Y}]
        values += [{"a": "x", "b": name} for name in NO_NAMES]
        for function in EACH:
            refused(self, InvalidNames, values, lambda value: function(COIN, value))
            refused(self, InvalidNames, [{"a": "x"}, None], lambda value: function(sketch_of([]), value))
            refused(self, InvalidNames, [{}, None], lambda value: function(sample(list("abcdef"), 6), value))

    def test_the_sequence_of_the_names_has_no_effect(self):
        for function in EACH:
            self.assertEqual(function(COIN, {"b": "x", "a": "y"}), function(COIN, {"a": "y", "b": "x"}))

    def test_too_many(self):
        four, five = sketch_of([{"a": 1}] * 4, [{"a": 1}] * 4), sketch_of([{"a": 1}] * 5, [{"b": 1}] * 4)
        three_keys, four_keys = sample(["a", "b", "c"], 3), sample(["a", "b", "c", "d"], 3)
        pqr, pqrs = dict(zip("abc", "pqr")), dict(zip("abcd", "pqrs"))
        for function in EACH:
            function(four, {"a": "x"})
            too_many(self, "sums", 8, lambda: function(five, XY))
            function(three_keys, pqr)
        for function in (tied, tied_joins):
            too_many(self, "keys", 6, lambda: function(four_keys, pqrs))
            function(buckets(["a", "b", "c"], 3), pqr)
            self.assertTrue(function(sketch_of(*[[{"a": 1}]] * 12), {"a": "x"}))

    def test_too_many_of_own_seeds(self):
        three, four = sketch_of(*[[{"a": 1}]] * 3), sketch_of(*[[{"a": 1}]] * 4)
        for function in (own, tying_loses):
            function(three, {"a": "x"})
            too_many(self, "seeds", 12, lambda: function(four, {"a": "x"}))
        pqrs = dict(zip("abcd", "pqrs"))
        # The tied sketch has too many keys before the one with own seeds has too many seeds.
        too_many(self, "keys", 6, lambda: tying_loses(sample(["a", "b", "c", "d"], 1), pqrs))
        too_many(self, "seeds", 12, lambda: own(sample(["a", "b", "c", "d"], 1), pqrs))
        too_many(self, "keys", 6, lambda: own(sample(["a", "b", "c", "d"], 4), pqrs))
        too_many(self, "sums", 8, lambda: tying_loses(sketch_of([{"a": 1}] * 5, *[[{"b": 1}]] * 4), XY))


if __name__ == "__main__":
    unittest.main()
