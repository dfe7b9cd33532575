"""Spreads: points 32 and 34, and the spread over tables of point 33."""

import unittest
from fractions import Fraction

from made import asked, cases, fraction, sample, signs, sketch_of, some_keys, some_sketch
from notesums.errors import InvalidRule, InvalidTable, InvalidTables
from notesums.notes import Note
from notesums.questions import Question
from notesums.ratios import Ratio
from notesums.rules import Rule, is_rule, mean_of
from notesums.sketches import Sketch
from notesums.spreads import is_steady, spread_at, spread_over, spread_question, spread_rule
from notesums.tables import Table
from test_rules import some_rule
from wrong import NO_INTEGERS, Odd, position_of, refused, too_many

P, Q = Question.of_key("p0"), Question.of_key("p1")
COIN, APART = signs(["a", "b"]), sample(["a", "b"], 1)
RULE = Rule({"s0": P * P * Ratio(1, 2), "s1": P * P * Ratio(-1, 2)})
NO_RULES = [Rule({}), Rule({"s0": P}), Rule({"s0": P, "s1": Q}), Rule({"s0": P, "s1": P, "s2": P}), Rule({"x": P, "s1": P})]
NO_TABLES = [None, True, 0, {}, {"a": 1}, [], (), "a", Odd(), COIN, P, RULE]
NO_LISTS = [None, True, 0, 1, "", "a", [], (), {}, {"a": 1}, {1}, Odd(), COIN, RULE, Table(), Ratio(1)]
NO_PAIRS = [None, 1, "a", [], (), (Table(),), (Table(), 1, 1), [Table(), 1], (1, Table()), (None, 1), ({"a": 1}, 1), Table(),
            (Table(), 0), (Table(), -1), (Table(), Ratio(0)), (Table(), Ratio(-1, 2)), RULE, Odd()]
NO_PAIRS += [(Table(), number) for number in NO_INTEGERS]


def spread(sketch, rule, table):
    """The spread at a table, seed by seed."""
    answers = []
    for name, weight, note in sketch.walk():
        shown = {f"p{at}": number for at, number in enumerate(note.shows(table))}
        answers.append((fraction(weight), fraction(rule.formula(name).at(Table(shown)))))
    mean = sum(weight * answer for weight, answer in answers)
    return sum(weight * (answer - mean) ** 2 for weight, answer in answers)


def some_table(chance, keys):
    return Table({key: chance.randint(-3, 3) for key in keys})


class Spreads(unittest.TestCase):
    def test_written_out(self):
        # With heads (a + b)**2 / 2, with tails -(a - b)**2 / 2; the mean is a * b.
        self.assertEqual(spread_question(COIN, RULE), asked({"aaaa": Fraction(1, 4), "aabb": Fraction(1, 2), "bbbb": Fraction(1, 4)}))
        self.assertEqual(spread_at(COIN, RULE, Table({"a": 1, "b": 2})), Ratio(25, 4))
        self.assertEqual(spread_at(sketch=COIN, rule=RULE, table=Table()), Ratio(0))

    def test_many(self):
        for chance in cases(1, 80):
            keys = some_keys(chance, 3)
            sketch = some_sketch(chance, keys, 4, 2)
            rule = some_rule(chance, sketch)
            question = spread_question(sketch=sketch, rule=rule)
            tables = [(some_table(chance, keys), Ratio(chance.randint(1, 4), chance.randint(1, 3))) for _ in range(3)]
            total = 0
            for table, weight in tables:
                expected = spread(sketch, rule, table)
                self.assertEqual(fraction(question.at(table)), expected)
                self.assertEqual(fraction(spread_at(sketch, rule, table)), expected)
                self.assertGreaterEqual(expected, 0)
                self.assertIs(is_steady(sketch, rule, table), expected == 0)
                total += fraction(weight) * expected
            self.assertEqual(fraction(spread_over(sketch, rule, tables)), total)
            self.assertEqual(fraction(spread_over(sketch=sketch, rule=rule, tables=tuple(tables + tables))), 2 * total)

    def test_over_tables(self):
        table = Table({"a": 1, "b": 2})
        self.assertEqual(spread_over(COIN, RULE, [(table, 2), (Table(), 5), (table, Ratio(2, 5))]), Ratio(15))
        self.assertIs(type(spread_over(COIN, RULE, [(table, 2)])), Ratio)

    def test_rules_that_do_not_fit(self):
        refused(self, InvalidRule, NO_RULES, lambda rule: spread_question(COIN, rule))
        refused(self, InvalidRule, NO_RULES, lambda rule: spread_at(COIN, rule, None))
        refused(self, InvalidRule, NO_RULES, lambda rule: spread_over(COIN, rule, None))
        refused(self, InvalidRule, NO_RULES, lambda rule: spread_rule(COIN, rule))
        refused(self, InvalidRule, NO_RULES, lambda rule: is_steady(COIN, rule, None))

    def test_what_is_no_table(self):
        refused(self, InvalidTable, NO_TABLES, lambda table: spread_at(COIN, RULE, table))
        refused(self, InvalidTable, NO_TABLES, lambda table: is_steady(COIN, RULE, table))

    def test_what_is_no_list_of_tables(self):
        for value in NO_LISTS:
            self.assertIsNone(position_of(self, InvalidTables, lambda: spread_over(COIN, RULE, value)))
        for pair in NO_PAIRS:
            self.assertEqual(position_of(self, InvalidTables, lambda: spread_over(COIN, RULE, [pair])), 0)
            right = (Table(), 1)
            self.assertEqual(position_of(self, InvalidTables, lambda: spread_over(COIN, RULE, (right, right, pair, None))), 2)


class SpreadRules(unittest.TestCase):
    def test_written_out(self):
        sketch = sketch_of([{"a": 1}, {"b": 1}], [{"a": 2}])
        found = spread_rule(sketch=sketch, rule=Rule({"s0": P + Q, "s1": P * P}))
        p2 = Question.of_key("p2")
        self.assertEqual(found, Rule({
            "s0": (P + Q) * (P + Q) - (P + Q) * (p2 + Question.of_key("p3")), "s1": (P + Q) * (P + Q) - (P + Q) * p2 * p2,
            "s2": P.power(4) - P * P * (Q + p2), "s3": P.power(4) - P * P * Q * Q,
        }))

    def test_it_answers_the_spread_question(self):
        for chance in cases(2, 60):
            keys = some_keys(chance, 3)
            sketch = some_sketch(chance, keys, 3, 3)
            rule = some_rule(chance, sketch)
            found = spread_rule(sketch, rule)
            self.assertEqual(found.seeds(), sorted(sketch.copies(2).seeds()))
            self.assertTrue(is_rule(sketch.copies(2), spread_question(sketch, rule), found))
            self.assertEqual(mean_of(sketch.copies(2), found), spread_question(sketch, rule))

    def test_sums_behind_the_last_that_is_used(self):
        sketch = sketch_of([{"a": 1}, {"b": 1}, {"c": 1}, {"d": 1}], [{"b": 1}])
        rule = Rule({"s0": Question.of_key("p3"), "s1": P})
        self.assertTrue(is_rule(sketch.copies(2), spread_question(sketch, rule), spread_rule(sketch, rule)))

    def test_too_many(self):
        four = sketch_of(*[[{"a": 1}]] * 4)
        too_many(self, "seeds", 12, lambda: spread_rule(four, Rule({f"s{at}": P for at in range(4)})))
        too_many(self, "sums", 8, lambda: spread_rule(sketch_of([{"a": 1}] * 5), Rule({"s0": P})))
        five = sketch_of(*[[{"a": 1}] * 5] * 4)
        too_many(self, "sums", 8, lambda: spread_rule(five, Rule({f"s{at}": P for at in range(4)})))
        refused(self, InvalidRule, [Rule({})], lambda rule: spread_rule(five, rule))


class Steady(unittest.TestCase):
    def test_written_out(self):
        rule = Rule({"s0": P, "s1": P * P})
        for counts, steady in (({"a": 1, "b": 1}, True), ({}, True), ({"a": 4, "b": -2}, True), ({"a": 1, "b": 2}, False)):
            self.assertIs(is_steady(APART, rule, Table(counts)), steady)
            self.assertIs(is_steady(sketch=APART, rule=rule, table=Table(counts)), steady)
        self.assertIs(is_steady(Sketch([("x", 1, Note([]))]), Rule({"x": Question()}), Table({"a": 1})), True)


class Listed(unittest.TestCase):
    def test_the_file(self):
        for function in (spread_question, spread_at, spread_over, spread_rule, is_steady):
            self.assertEqual(function.__module__, "notesums.spreads")


if __name__ == "__main__":
    unittest.main()
