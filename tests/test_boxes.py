"""Boxes: points 19 and 21, and EVERY BOX of point 4."""

import unittest
from fractions import Fraction
from itertools import product

from made import cases, fraction, sample, signs, sketch_of, some_keys, some_question, some_sketch
from notesums.answers import can_answer
from notesums.boxes import box_rule, box_tables, is_box_rule
from notesums.errors import InvalidBox
from notesums.notes import Note
from notesums.questions import Question
from notesums.ratios import Ratio
from notesums.rules import Rule
from notesums.tables import Table
from notesums.twins import exact_twins, is_twins
from wrong import NO_INTEGERS, NO_NAMES, Odd, refused, too_many

A, B = Question.of_key("a"), Question.of_key("b")
COIN, APART = signs(["a", "b"]), sample(["a", "b"], 1)
NO_BOXES = [None, True, 0, 1, "a", "", [], [("a", 1)], (), {"a"}, Odd(), A, Table({"a": 1}), Note([]), COIN]
NO_BOXES += [{name: 1} for name in NO_NAMES if not isinstance(name, (list, dict, set))]
NO_BOXES += [{"a": number} for number in NO_INTEGERS + [-1, Ratio(1), A]] + [{"a": 1, "b": -1}, {"a": 1, "": 0}]


def some_box(chance, keys):
    """Any box with a few tables."""
    return {key: chance.randint(0, 2) for key in chance.sample(keys, chance.randint(0, min(4, len(keys))))}


def counted(sketch, question, box, rule):
    """Whether a dict has the right value for each table of a box."""
    for numbers in product(*[range(most + 1) for most in box.values()]):
        table = Table(dict(zip(box, numbers)))
        total = Fraction(0)
        for name, weight, note in sketch.walk():
            total += fraction(weight) * fraction(rule[name][note.shows(table)])
        if total != fraction(question.at(table)):
            return False
    return True


class Tables(unittest.TestCase):
    def test_order(self):
        found = [table.counts() for table in box_tables({"b": 2, "a": 1})]
        self.assertEqual(found, [{}, {"b": 1}, {"b": 2}, {"a": 1}, {"a": 1, "b": 1}, {"a": 1, "b": 2}])
        self.assertEqual([t.counts() for t in box_tables(box={"a": 0})], [{}])
        self.assertEqual([t.counts() for t in box_tables({})], [{}])
        self.assertEqual([t.at("b1") for t in box_tables({"b1": 3})], [0, 1, 2, 3])

    def test_any_box(self):
        for chance in cases(1, 40):
            box = {key: chance.randint(0, 2) for key in some_keys(chance, 3)}
            items = list(box.items())
            chance.shuffle(items)
            expected = [Table(dict(zip(sorted(box), numbers)))
                        for numbers in product(*[range(box[key] + 1) for key in sorted(box)])]
            self.assertEqual(list(box_tables(dict(items))), expected)

    def test_it_is_a_generator(self):
        box = {"a": 1, "b": 1}
        tables = box_tables(box)
        self.assertEqual(type(tables).__name__, "generator")
        self.assertEqual(next(tables), Table())
        box["a"] = 9
        del box["b"]
        self.assertEqual([t.counts() for t in tables], [{"b": 1}, {"a": 1}, {"a": 1, "b": 1}])

    def test_wrong_boxes(self):
        refused(self, InvalidBox, NO_BOXES, lambda box: next(box_tables(box)))
        refused(self, InvalidBox, NO_BOXES + [{"a": 100, "b": -1}], lambda box: list(box_tables(box)))

    def test_the_number_of_tables(self):
        for box in ({"a": 80}, {"a": 8, "b": 8}, {"a": 2, "b": 2, "c": 2, "d": 2}, {key: 0 for key in "abcdefgh"}):
            many = 1
            for most in box.values():
                many *= most + 1
            self.assertEqual(len(list(box_tables(box))), many)
        for box in ({"a": 81}, {"a": 40, "b": 1}, {key: 1 for key in "abcdefg"}, {"a": 10 ** 29}):
            too_many(self, "tables", 81, lambda: next(box_tables(box)))


class Rules(unittest.TestCase):
    def test_the_document(self):
        self.assertIsNotNone(box_rule(APART, A * B, {"a": 1}))
        self.assertIsNone(box_rule(APART, A * B, {"a": 1, "b": 1}))
        self.assertIsNotNone(box_rule(sketch=COIN, question=A * B, box={"a": 3, "b": 2}))

    def test_either_a_box_rule_or_exact_twins(self):
        for chance in cases(2, 250):
            keys = some_keys(chance, 3)
            sketch = some_sketch(chance, keys, 4, 2)
            question = some_question(chance, keys + ["z"], 3, 4)
            box = some_box(chance, keys + ["y", "z"])
            rule, twins = box_rule(sketch, question, box), exact_twins(sketch, question, box=box)
            self.assertEqual(rule is None, twins is not None)
            self.assertTrue(rule is not None or not can_answer(sketch, question))
            if rule is not None:
                self.assertTrue(counted(sketch, question, box, rule))
                self.assertIs(is_box_rule(sketch, question, box, rule), True)
                self.assertEqual(box_rule(sketch, question, box), rule)
            else:
                self.assertIs(is_twins(sketch, question, twins), True)

    def test_the_form(self):
        for chance in cases(3, 40):
            keys = some_keys(chance, 3)
            sketch, box = some_sketch(chance, keys, 3, 2), some_box(chance, keys)
            rule = box_rule(sketch, Question.constant(3), box)
            self.assertEqual(list(rule), sorted(sketch.seeds()))
            for name in rule:
                shown = {sketch.shows(name, table) for table in box_tables(box)}
                self.assertEqual(list(rule[name]), sorted(shown))
                self.assertEqual({type(number) for number in rule[name].values()}, {Ratio})

    def test_sorted_seeds(self):
        sketch = sketch_of(*[[{"a": 1}]] * 11)
        self.assertEqual(list(box_rule(sketch, A, {"a": 2})), sorted(sketch.seeds()))

    def test_boxes_with_other_keys(self):
        for box in ({"y": 2}, {"a": 1, "y": 1, "z": 0}, {}, {"a": 0, "b": 0}):
            rule = box_rule(APART, A * B, box)
            self.assertTrue(counted(APART, A * B, box, rule))
            self.assertIs(is_box_rule(APART, A * B, box, rule), True)
        self.assertEqual(box_rule(APART, Question.constant(2), {}).keys(), {"s0", "s1"})
        self.assertIsNone(box_rule(APART, Question.of_key("y"), {"y": 1}))

    def test_a_box_rule_although_it_cannot_be_answered(self):
        # On this box the square is the key itself.
        self.assertIsNotNone(box_rule(sketch_of([{"a": 1, "b": 2}], []), A * A, {"a": 1, "b": 1}))
        self.assertFalse(can_answer(sketch_of([{"a": 1, "b": 2}], []), A * A))

    def test_near_the_limits(self):
        for chance in cases(4, 4):
            keys = list("abcd")
            notes = [[{key: chance.randint(-9, 9) for key in keys} for _ in range(chance.randint(0, 2))] for _ in range(12)]
            sketch, question, box = sketch_of(*notes), some_question(chance, keys, 4, 20), {key: 2 for key in keys}
            rule = box_rule(sketch, question, box)
            self.assertTrue(rule is None or counted(sketch, question, box, rule))
            self.assertEqual(rule is None, exact_twins(sketch, question, box=box) is not None)

    def test_wrong_boxes(self):
        refused(self, InvalidBox, NO_BOXES, lambda box: box_rule(APART, A, box))
        refused(self, InvalidBox, NO_BOXES, lambda box: is_box_rule(APART, A, box, None))
        refused(self, InvalidBox, [{"a": 100, "b": -1}], lambda box: box_rule(APART, A.power(5), box))


class Judging(unittest.TestCase):
    def setUp(self):
        self.box = {"a": 1, "b": 1}
        half = Ratio(1, 2)
        self.rule = {
            "s0": {(0,): half * 0, (1,): half * 2}, "s1": {(0,): half * 0, (1,): half * 2},
        }

    def judge(self, value):
        return is_box_rule(APART, (A + B) * Ratio(1, 2), self.box, value)

    def test_right_rules(self):
        self.assertIs(self.judge(self.rule), True)
        self.assertIs(self.judge(dict(reversed(list(self.rule.items())))), True)
        one = {"s0": {(0,): Ratio(1), (1,): Ratio(2)}, "s1": {(1,): Ratio(0), (0,): Ratio(-1)}}
        self.assertIs(self.judge(one), True)

    def test_wrong_numbers(self):
        for name in ("s0", "s1"):
            for number in (Ratio(2), Ratio(1, 2), 1, True, None, "1", A, 0):
                self.assertIs(self.judge({**self.rule, name: {(0,): Ratio(0), (1,): number}}), False)

    def test_wrong_seeds(self):
        for value in ({}, {"s0": self.rule["s0"]}, {**self.rule, "s2": {}}, {"s0": self.rule["s0"], "x": self.rule["s1"]},
                      {"s0": self.rule["s0"], 1: self.rule["s1"]}, {**self.rule, None: {}}):
            self.assertIs(self.judge(value), False)

    def test_wrong_tuples(self):
        right = self.rule["s0"]
        for numbers in ({}, {(0,): Ratio(0)}, {**right, (2,): Ratio(0)}, {**right, (): Ratio(0)},
                        {(0,): Ratio(0), (True,): Ratio(1)}, {(False,): Ratio(0), (1,): Ratio(1)},
                        {0: Ratio(0), 1: Ratio(1)}, {(0,): Ratio(0), "1": Ratio(1)}, {(0,): Ratio(0), (1, 0): Ratio(1)},
                        {(0,): Ratio(0), None: Ratio(1)}, [(0,), (1,)], None, True, 0, "s", A, Rule({}), []):
            self.assertIs(self.judge({**self.rule, "s0": numbers}), False, numbers)
            self.assertIs(self.judge({"s1": numbers, "s0": right}), False, numbers)

    def test_values_of_all_kinds(self):
        for value in NO_NAMES + NO_INTEGERS + [A, COIN, Rule({}), Table(), [self.rule], (self.rule,), Ratio(1)]:
            self.assertIs(self.judge(value), False)

    def test_the_weights_count(self):
        sketch = sketch_of([{"a": 1}], [], weights=[Ratio(1, 3), Ratio(2, 3)])
        rule = {"s0": {(0,): Ratio(-2), (1,): Ratio(1)}, "s1": {(): Ratio(1)}}
        self.assertIs(is_box_rule(sketch, A, {"a": 1}, rule), True)
        self.assertIs(is_box_rule(sketch_of([{"a": 1}], []), A, {"a": 1}, rule), False)
        self.assertIs(is_box_rule(sketch=sketch, question=A, box={"a": 1}, value=rule), True)

    def test_any_change_of_a_rule(self):
        for chance in cases(5, 60):
            keys = some_keys(chance, 2)
            sketch, question = some_sketch(chance, keys, 3, 2), some_question(chance, keys, 2, 3)
            box = {key: chance.randint(0, 2) for key in keys}
            rule = box_rule(sketch, question, box)
            if rule is not None:
                name = chance.choice(list(rule))
                shown = chance.choice(list(rule[name]))
                rule[name][shown] = rule[name][shown] + chance.randint(0, 1)
                self.assertEqual(is_box_rule(sketch, question, box, rule), counted(sketch, question, box, rule))


class Listed(unittest.TestCase):
    def test_the_file(self):
        for function in (box_tables, box_rule, is_box_rule):
            self.assertEqual(function.__module__, "notesums.boxes")


if __name__ == "__main__":
    unittest.main()
