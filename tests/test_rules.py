"""Rules: point 13."""

import unittest
from fractions import Fraction

from made import asked, cases, signs, sketch_of, some_keys, some_question, some_sketch, tables_up_to
from notesums.errors import InvalidNumber, InvalidRule, InvalidTable, UnknownSeed
from notesums.notes import Note
from notesums.questions import Question
from notesums.ratios import Ratio
from notesums.rules import Rule, is_rule, mean_at, mean_of
from notesums.tables import Table
from wrong import NO_INTEGERS, NO_NAMES, Odd, refused

NOTHING = Question()
P, Q = Question.of_key("p0"), Question.of_key("p1")
A, B = Question.of_key("a"), Question.of_key("b")
COIN = signs(["a", "b"])
RULE = Rule({"s1": P * P * Ratio(-1, 2), "s0": P * P * Ratio(1, 2)})
NO_FORMULAS = [None, True, 0, 1, "p0", "", [], {}, Odd(), Ratio(1), Table({"p0": 1}), A, B + 1, P * A,
               Question.of_key("p8"), Question.of_key("p9"), Question.of_key("p10"), Question.of_key("p"),
               Question.of_key("p00"), Question.of_key("q0"), Question.of_key("p01")]


def some_formula(chance, many, degree=2):
    """Any formula for so many sums."""
    keys = [f"p{at}" for at in range(many)]
    return some_question(chance, keys, degree, 3) if keys else Question.constant(chance.randint(-2, 2))


def some_rule(chance, sketch, degree=2):
    """Any rule for a sketch."""
    return Rule({name: some_formula(chance, len(note), degree) for name, _, note in sketch.walk()})


class Making(unittest.TestCase):
    def test_formulas(self):
        self.assertEqual(RULE.seeds(), ["s0", "s1"])
        self.assertEqual(RULE.formula("s0"), P * P * Ratio(1, 2))
        self.assertEqual(RULE.formula(seed="s1"), P * P * Ratio(-1, 2))
        self.assertEqual(Rule(formulas={}).seeds(), [])
        keys = [Question.of_key(f"p{at}") for at in range(8)]
        self.assertEqual(Rule({"x": keys[7] * keys[0] + keys[3]}).degree, 2)

    def test_the_passed_dict_may_be_changed(self):
        formulas = {"t": P, "s": Q}
        rule = Rule(formulas)
        self.assertEqual(list(formulas), ["t", "s"])
        formulas["t"] = Q
        del formulas["s"]
        rule.seeds().append("u")
        self.assertEqual((rule.seeds(), rule.formula("t")), (["s", "t"], P))

    def test_wrong_values(self):
        wrong = [None, True, 0, "a", [], [("s", P)], (), {"s"}, Odd(), P, RULE, Ratio(1), Table()]
        wrong += [{name: P} for name in NO_NAMES if not isinstance(name, (list, dict, set))]
        wrong += [{"s": formula} for formula in NO_FORMULAS] + [{"s": P, "t": None}, {"s": P, "": P}]
        refused(self, InvalidRule, wrong, Rule)

    def test_formula_of_what_is_no_seed(self):
        for value in NO_NAMES + ["s2", "p0", RULE]:
            refused(self, UnknownSeed, [value], RULE.formula)
            refused(self, UnknownSeed, [value], Rule({}).formula)

    def test_degree(self):
        for formulas, degree in (
            ({}, -1), ({"s": NOTHING}, -1), ({"s": Question.constant(2)}, 0), ({"s": P, "t": P * Q * Q}, 3),
            ({"s": P * P, "t": NOTHING}, 2),
        ):
            self.assertEqual(Rule(formulas).degree, degree)
        with self.assertRaises(AttributeError):
            RULE.degree = 1

    def test_repr(self):
        rule = Rule({"t": NOTHING, "s": P * P * Ratio(1, 2) - Q + 1})
        self.assertEqual(repr(rule), "Rule({'s': '1/2*p0*p0 - p1 + 1', 't': '0'})")
        self.assertEqual(repr(Rule({"s0": P * P})), "Rule({'s0': 'p0*p0'})")
        self.assertEqual(repr(Rule({})), "Rule({})")


class Working(unittest.TestCase):
    def test_written_out(self):
        one, other = Rule({"s": P, "t": Q}), Rule({"t": Q + 1, "s": P * Q})
        self.assertEqual(one + other, Rule({"s": P + P * Q, "t": Q * 2 + 1}))
        self.assertEqual(one - other, Rule({"s": P - P * Q, "t": Question.constant(-1)}))
        self.assertEqual(one * Ratio(1, 2), Rule({"s": P * Ratio(1, 2), "t": Q * Ratio(1, 2)}))
        self.assertEqual(one * 0, Rule({"s": NOTHING, "t": NOTHING}))
        self.assertEqual((one, other), (Rule({"s": P, "t": Q}), Rule({"t": Q + 1, "s": P * Q})))
        self.assertEqual(Rule({}) + Rule({}), Rule({}))

    def test_rules_of_other_seeds(self):
        one = Rule({"s": P, "t": Q})
        wrong = [Rule({}), Rule({"s": P}), Rule({"s": P, "u": Q}), Rule({"s": P, "t": Q, "u": P}), None, True, 0, 1, "s",
                 {}, {"s": P, "t": Q}, [], P, NOTHING, Ratio(1), Odd(), COIN]
        refused(self, InvalidRule, wrong, lambda value: one + value)
        refused(self, InvalidRule, wrong, lambda value: one - value)
        refused(self, InvalidRule, wrong[1:], lambda value: Rule({}) + value)

    def test_what_is_no_number(self):
        refused(self, InvalidNumber, NO_INTEGERS + [RULE, P, Question.constant(1), Table()], lambda value: RULE * value)

    def test_equality(self):
        self.assertTrue(RULE == Rule({"s0": P * P * Ratio(1, 2), "s1": P * P * Ratio(-1, 2)}))
        for other in (Rule({}), Rule({"s0": P}), RULE * 2, -1, None, {}, {"s0": P}, P, COIN, Odd()):
            self.assertFalse(RULE == other)
            self.assertTrue(RULE != other)

    def test_fits(self):
        self.assertIs(RULE.fits(COIN), True)
        self.assertIs(RULE.fits(sketch=sketch_of([{"z": 1}, {}], [{}])), True)
        for formulas in ({}, {"s0": P}, {"s0": P, "s1": P, "s2": P}, {"s0": P, "x": P}, {"s0": P, "s1": Q}):
            self.assertIs(Rule(formulas).fits(COIN), False)
        self.assertIs(Rule({"s0": NOTHING, "s1": Question.constant(1)}).fits(sketch_of([], [])), True)
        self.assertIs(Rule({"s0": P, "s1": NOTHING}).fits(sketch_of([], [{"a": 1}])), False)


class Means(unittest.TestCase):
    def test_the_coin_of_the_document(self):
        self.assertEqual(mean_of(COIN, RULE), asked({"ab": 1}))
        self.assertEqual(mean_of(sketch=COIN, rule=RULE * 2), asked({"ab": 2}))

    def test_weights(self):
        sketch = sketch_of([{"a": 2, "b": 1}, {}], [{"b": 1}], weights=[Ratio(1, 3), Ratio(2, 3)])
        rule = Rule({"s0": P * Q + P + 3, "s1": P * P})
        self.assertEqual(mean_of(sketch, rule), asked({"a": Fraction(2, 3), "b": Fraction(1, 3), "": 1, "bb": Fraction(2, 3)}))

    def test_the_mean_is_the_average_of_the_answers(self):
        for chance in cases(1, 60):
            keys = some_keys(chance, 3)
            sketch = some_sketch(chance, keys, 3)
            rule = some_rule(chance, sketch, 3)
            mean = mean_of(sketch, rule)
            for table in tables_up_to(keys, 1, -1)[:9]:
                average = Ratio(0)
                for name, weight, note in sketch.walk():
                    shown = {f"p{at}": number for at, number in enumerate(note.shows(table))}
                    average = average + weight * rule.formula(name).at(Table(shown))
                self.assertEqual(mean.at(table), average)
                self.assertEqual(mean_at(sketch, rule, table), average)
                self.assertIs(type(mean_at(sketch, rule, table)), Ratio)

    def test_numbers_below_0_and_other_keys(self):
        self.assertEqual(mean_at(COIN, RULE, Table({"a": -3, "b": 5, "z": 7})), Ratio(-15))
        self.assertEqual(mean_at(sketch=COIN, rule=RULE, table=Table()), Ratio(0))

    def test_rules_that_do_not_fit(self):
        wrong = [Rule({}), Rule({"s0": P}), Rule({"s0": P, "s1": Q}), Rule({"s0": P, "s1": P, "s2": P})]
        refused(self, InvalidRule, wrong, lambda rule: mean_of(COIN, rule))
        refused(self, InvalidRule, wrong, lambda rule: mean_at(COIN, rule, Table()))
        refused(self, InvalidRule, wrong, lambda rule: mean_at(COIN, rule, None))

    def test_what_is_no_table(self):
        wrong = [None, True, 0, {}, {"a": 1}, [], "a", Odd(), COIN, NOTHING]
        refused(self, InvalidTable, wrong, lambda table: mean_at(COIN, RULE, table))


class Judging(unittest.TestCase):
    def test_right_and_wrong_rules(self):
        self.assertIs(is_rule(COIN, A * B, RULE), True)
        self.assertIs(is_rule(sketch=COIN, question=A * B, value=RULE), True)
        self.assertIs(is_rule(COIN, A * B * 2, RULE), False)
        self.assertIs(is_rule(COIN, A * B, RULE * 2), False)
        self.assertIs(is_rule(COIN, NOTHING, RULE - RULE), True)

    def test_values_of_all_kinds(self):
        wrong = NO_NAMES + NO_INTEGERS + [
            Rule({}), Rule({"s0": P}), Rule({"s0": A * 0, "x": P}), {"s0": P, "s1": P}, A * B, COIN, Note([]), Table(),
            Rule({"s0": P * P * Ratio(1, 2), "s1": Q}), Rule({"s0": Q, "s1": P}),
            Rule({**{name: RULE.formula(name) for name in RULE.seeds()}, "s2": NOTHING}), Rule, Ratio(1),
        ]
        for value in wrong:
            self.assertIs(is_rule(COIN, A * B, value), False)
            self.assertIs(is_rule(COIN, NOTHING, value), False)

    def test_no_limit_applies(self):
        # Only the functions from answers.py on have limits.
        keys = [Question.of_key(key) for key in "abcdefgh"]
        great = A.power(6)
        for key in keys:
            great = great + key
        self.assertIs(is_rule(COIN, great, RULE), False)
        self.assertIs(is_rule(sketch_of([{"a": 1}]), A.power(6), Rule({"s0": P.power(6)})), True)


class Listed(unittest.TestCase):
    def test_each_method_is_defined_in_the_class(self):
        names = ["__init__", "formula", "seeds", "degree", "__add__", "__sub__", "__mul__", "fits", "__repr__", "__eq__"]
        for name in names:
            self.assertIn(name, vars(Rule))
        self.assertIsInstance(vars(Rule)["degree"], property)
        for function in (Rule, mean_of, mean_at, is_rule):
            self.assertEqual(function.__module__, "notesums.rules")


if __name__ == "__main__":
    unittest.main()
