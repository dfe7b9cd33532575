"""The least spread: point 33, and LEAST SPREAD of point 4."""

import unittest
from fractions import Fraction

from made import cases, fraction, rank, sample, signs, sketch_of, some_keys, some_sketch
from notesums.answers import zero_base
from notesums.best import has_least_spread, least_spread, right_angle
from notesums.errors import InvalidCount, InvalidRule, InvalidTables, NotAnswered
from notesums.questions import Question
from notesums.ratios import Ratio
from notesums.rules import Rule, is_rule, mean_of
from notesums.spreads import spread_over
from notesums.tables import Table
from test_rules import some_rule
from test_spreads import NO_LISTS, NO_PAIRS, NO_RULES, some_table
from wrong import NO_INTEGERS, position_of, refused, too_many

A, B, C = (Question.of_key(key) for key in "abc")
P, Q = Question.of_key("p0"), Question.of_key("p1")
COIN, APART = signs(["a", "b"]), sample(["a", "b"], 1)
RULE = Rule({"s0": P * P * Ratio(1, 2), "s1": P * P * Ratio(-1, 2)})
TABLES = [(Table({"a": 1}), 1), (Table({"b": 1}), 1)]


def some_tables(chance, keys):
    """Any weighted tables; some stand twice."""
    found = [(some_table(chance, keys), Ratio(chance.randint(1, 4), chance.randint(1, 3))) for _ in range(chance.randint(1, 4))]
    return found + found[:chance.randint(0, 1)]


def angle(sketch, one, other, tables):
    """The sum of point 33, seed by seed."""
    total = Fraction(0)
    for table, many in tables:
        for name, weight, note in sketch.walk():
            shown = Table({f"p{at}": number for at, number in enumerate(note.shows(table))})
            values = [fraction(rule.formula(name).at(shown)) for rule in (one, other)]
            total += fraction(many) * fraction(weight) * values[0] * values[1]
    return total


class RightAngles(unittest.TestCase):
    def test_written_out(self):
        one, other = Rule({"s0": P, "s1": P + 1}), Rule({"s0": P * P, "s1": Question.constant(3)})
        tables = [(Table({"a": 2, "b": -1}), 3), (Table({"b": 1}), Ratio(1, 3))]
        # 3 * (1/2 * 2 * 4 + 1/2 * 0 * 3) + 1/3 * (1/2 * 0 * 0 + 1/2 * 2 * 3)
        self.assertEqual(right_angle(APART, one, other, tables), Ratio(13))
        self.assertEqual(right_angle(sketch=APART, one=other, other=one, tables=tuple(tables)), Ratio(13))

    def test_many(self):
        for chance in cases(1, 60):
            keys = some_keys(chance, 3)
            sketch, tables = some_sketch(chance, keys, 4, 2), some_tables(chance, keys)
            one, other = some_rule(chance, sketch), some_rule(chance, sketch)
            found = right_angle(sketch, one, other, tables)
            self.assertEqual(fraction(found), angle(sketch, one, other, tables))

    def test_wrong_values(self):
        refused(self, InvalidRule, NO_RULES, lambda rule: right_angle(COIN, rule, Rule({}), None))
        refused(self, InvalidRule, NO_RULES, lambda rule: right_angle(COIN, RULE, rule, None))
        for value in NO_LISTS:
            self.assertIsNone(position_of(self, InvalidTables, lambda: right_angle(COIN, RULE, RULE, value)))
        for pair in NO_PAIRS:
            self.assertEqual(position_of(self, InvalidTables, lambda: right_angle(COIN, RULE, RULE, [TABLES[0], pair])), 1)


class Least(unittest.TestCase):
    def test_the_document(self):
        value, rule = least_spread(APART, A + B, TABLES, 1)
        self.assertEqual(str(value), "2")
        self.assertTrue(is_rule(APART, A + B, rule))

    def test_met_and_at_right_angles(self):
        found = 0
        for chance in cases(2, 150):
            keys = some_keys(chance, 3)
            sketch, tables = some_sketch(chance, keys, 3, 2), some_tables(chance, keys)
            question = mean_of(sketch, some_rule(chance, sketch, chance.randint(0, 2)))
            degree = chance.randint(max(question.degree, 0), 2)
            pair = least_spread(sketch=sketch, question=question, tables=tables, degree=degree)
            value, rule = pair
            self.assertIs(type(pair), tuple)
            self.assertTrue(is_rule(sketch, question, rule))
            self.assertLessEqual(rule.degree, degree)
            self.assertEqual(spread_over(sketch, rule, tables), value)
            self.assertIs(has_least_spread(sketch, rule, tables, degree), True)
            for zero in zero_base(sketch, degree):
                found += 1
                self.assertEqual(right_angle(sketch, rule, zero, tables), Ratio(0))
                for many in (1, -1, Ratio(1, 100), -7):
                    nearby = rule + zero * many
                    spread = spread_over(sketch, nearby, tables)
                    self.assertFalse(spread.is_below(value))
                    self.assertIs(has_least_spread(sketch, nearby, tables, degree), spread == value)
            self.assertEqual(least_spread(sketch, question, tables, degree), pair)
        self.assertGreater(found, 200)

    def test_any_rule_has_it_only_if_at_right_angles(self):
        for chance in cases(3, 100):
            keys = some_keys(chance, 2)
            sketch, tables = some_sketch(chance, keys, 3, 1), some_tables(chance, keys)
            rule = some_rule(chance, sketch, 1)
            value, _ = least_spread(sketch, mean_of(sketch, rule), tables, 2)
            expected = spread_over(sketch, rule, tables) == value
            self.assertIs(has_least_spread(sketch=sketch, rule=rule, tables=tables, degree=2), expected)
            zeros = zero_base(sketch, 2)
            self.assertIs(all(angle(sketch, rule, zero, tables) == 0 for zero in zeros), expected)

    def test_a_single_table(self):
        for chance in cases(4, 40):
            keys = some_keys(chance, 3)
            sketch = some_sketch(chance, keys, 3, 2)
            question = mean_of(sketch, some_rule(chance, sketch))
            value, _ = least_spread(sketch, question, [(some_table(chance, keys), 3)], 2)
            self.assertEqual(value, Ratio(0))

    def test_more_degrees_are_no_worse(self):
        tables = TABLES + [(Table({"a": 2, "b": 1}), Ratio(1, 2)), (Table(), 1)]
        values = [least_spread(APART, A + B, tables, degree)[0] for degree in (1, 2)]
        self.assertFalse(values[0].is_below(values[1]))

    def test_a_table_twice_and_lists_as_tuples(self):
        twice = least_spread(APART, A + B, [TABLES[0], TABLES[0], TABLES[1]], 1)
        self.assertEqual(twice[0], least_spread(APART, A + B, ((TABLES[0][0], Ratio(2)), TABLES[1]), 1)[0])
        self.assertEqual(least_spread(APART, A + B, TABLES[:1] * 2, 1)[0], Ratio(0))

    def test_no_rule_of_nothing(self):
        value, rule = least_spread(sketch_of([{"a": 1}, {"b": 1}]), A * B, TABLES, 2)
        self.assertEqual((value, rule), (Ratio(0), Rule({"s0": P * Q})))

    def test_degree_0(self):
        value, rule = least_spread(COIN, Question.constant(3), TABLES, 0)
        self.assertEqual((value, rule), (Ratio(0), Rule({"s0": Question.constant(3), "s1": Question.constant(3)})))
        self.assertEqual(least_spread(COIN, Question(), TABLES, 0)[0], Ratio(0))

    def test_near_the_limits(self):
        for chance in cases(5, 2):
            keys = list("abcdef")
            sketch = sketch_of(*[[{key: chance.randint(-9, 9) for key in keys} for _ in range(4)] for _ in range(12)])
            tables = [(some_table(chance, keys), chance.randint(1, 9)) for _ in range(100)]
            value, rule = least_spread(sketch, A - B * 2, tables, 1)
            self.assertTrue(is_rule(sketch, A - B * 2, rule) and has_least_spread(sketch, rule, tables, 1))
            self.assertFalse(value.is_below(0))


class WrongValues(unittest.TestCase):
    def test_not_answered(self):
        for sketch, question, degree in (
            (APART, A * B, 2), (APART, C, 1), (APART, A * A, 1), (COIN, A * B, 0), (COIN, A, 0), (COIN, A * B + A * A, 2),
        ):
            refused(self, NotAnswered, [question], lambda value: least_spread(sketch, value, TABLES, degree))

    def test_tables(self):
        for value in NO_LISTS:
            self.assertIsNone(position_of(self, InvalidTables, lambda: least_spread(APART, A * B, value, None)))
            self.assertIsNone(position_of(self, InvalidTables, lambda: has_least_spread(COIN, RULE, value, None)))
        for pair in NO_PAIRS:
            self.assertEqual(position_of(self, InvalidTables, lambda: least_spread(APART, A, [TABLES[0], pair], 5)), 1)
            self.assertEqual(position_of(self, InvalidTables, lambda: has_least_spread(COIN, RULE, [pair], 5)), 0)

    def test_degrees(self):
        wrong = NO_INTEGERS + [-1, Ratio(1)]
        refused(self, InvalidCount, wrong, lambda degree: least_spread(APART, A.power(3), TABLES, degree))
        refused(self, InvalidCount, wrong, lambda degree: has_least_spread(COIN, RULE, TABLES, degree))

    def test_rules(self):
        refused(self, InvalidRule, NO_RULES, lambda rule: has_least_spread(COIN, rule, None, None))

    def test_rules_of_a_greater_degree(self):
        self.assertIs(has_least_spread(COIN, RULE, TABLES, 1), False)
        self.assertIs(has_least_spread(APART, Rule({"s0": P.power(3), "s1": P}), TABLES, 2), False)

    def test_too_many(self):
        too_many(self, "degree", 2, lambda: least_spread(APART, A.power(3), TABLES, 2))
        too_many(self, "degree", 2, lambda: least_spread(APART, A * B, TABLES, 3))
        too_many(self, "degree", 2, lambda: has_least_spread(COIN, RULE, TABLES, 3))
        too_many(self, "degree", 2, lambda: has_least_spread(COIN, RULE, TABLES, 10 ** 25))
        seven = sum((Question.of_key(key) for key in "abcdefg"), Question())
        too_many(self, "keys", 6, lambda: least_spread(APART, seven.power(3), TABLES, 9))
        # 8 sums: 45 products of at most degree 2, 9 of at most degree 1.
        eight = [[{"a": 1}] * 8]
        for notes, degree, fits in ((eight, 2, True), (eight * 2, 2, False), (eight * 6, 1, True), (eight * 7, 1, False),
                                    (eight * 12, 0, True), (eight + [[{"a": 1}] * 3, [{"a": 1}], []], 2, True),
                                    (eight + [[{"a": 1}] * 3, [{"a": 1}], [{"b": 1}]], 2, False)):
            sketch = sketch_of(*notes)
            rule = Rule({name: Question.constant(1) for name in sketch.seeds()})
            if fits:
                self.assertEqual(least_spread(sketch, Question.constant(1), TABLES, degree)[0], Ratio(0))
                self.assertIs(has_least_spread(sketch, rule, TABLES, degree), True)
                self.assertGreaterEqual(len(zero_base(sketch, degree)), 0)
            else:
                too_many(self, "formulas", 60, lambda: least_spread(sketch, B * C, TABLES, degree))
                too_many(self, "formulas", 60, lambda: has_least_spread(sketch, rule, TABLES, degree))
                too_many(self, "formulas", 60, lambda: zero_base(sketch, degree))

    def test_the_plain_ways_of_the_tests(self):
        self.assertEqual(rank([[1, 1], [1, 2]]), 2)


class Listed(unittest.TestCase):
    def test_the_file(self):
        for function in (right_angle, least_spread, has_least_spread):
            self.assertEqual(function.__module__, "notesums.best")


if __name__ == "__main__":
    unittest.main()
