"""Kept notes: point 35."""

import unittest

from made import cases, fraction, named, ratio, sketch_of, some_keys, some_question, some_sketch
from notesums.answers import rule_for
from notesums.errors import InvalidKept, InvalidName, InvalidNumber, InvalidRule, InvalidTable, InvalidTables, NoRule
from notesums.errors import UnknownSeed
from notesums.kept import Kept, tried
from notesums.makers import buckets, sample, signs
from notesums.notes import Note
from notesums.questions import Question
from notesums.ratios import Ratio
from notesums.rules import Rule, mean_at
from notesums.sketches import Sketch
from notesums.tables import Table
from wrong import NAMES, NO_INTEGERS, NO_NAMES, Odd, position_of, refused

A, B, P = named("ab") + [Question.of_key("p0")]
COIN, APART = signs(["a", "b"]), sample(["a", "b"], 1)
HALVES = Rule({"s0": P * P * Ratio(1, 2), "s1": P * P * Ratio(-1, 2)})
NO_KEPT = [None, True, 0, "s0", (), [], {}, (0,), Odd(), COIN, Table(), Note([]), Rule({}), Kept]


def some_table(chance, keys, most=4):
    """Any table."""
    return Table({key: chance.randint(-most, most) for key in keys})


def some_rule(chance, sketch, degree=2):
    """Any rule for a sketch."""
    formulas = {}
    for seed, _, note in sketch.walk():
        places = [f"p{at}" for at in range(len(note))]
        formulas[seed] = some_question(chance, places, degree,
                3) if places else Question.constant(chance.randint(-3, 3))
    return Rule(formulas)


class Changed(unittest.TestCase):
    def test_at_first(self):
        kept = Kept(sketch_of([{"a": 1}, {}, {"b": 2}], []), "s0")
        self.assertEqual((kept.shown, kept.seed, kept.rule), ((0, 0, 0), "s0", None))
        self.assertEqual(kept.sketch, sketch_of([{"a": 1}, {}, {"b": 2}], []))
        self.assertEqual(Kept(kept.sketch, "s1").shown, ())
        self.assertEqual(Kept(seed="s1", sketch=COIN), Kept(COIN, "s1"))

    def test_written_out(self):
        kept = Kept(COIN, "s1")
        self.assertIsNone(kept.change("a", 3))
        self.assertIsNone(kept.change(number=5, key="b"))
        self.assertEqual(kept.shown, (-2,))
        self.assertIsNone(kept.add(Table({"b": -1, "z": 9})))
        self.assertEqual(kept.shown, (-1,))
        self.assertIsNone(kept.take_in(other=kept.copy()))
        self.assertEqual(kept.shown, (-2,))
        kept.add(table=Table())
        self.assertEqual(repr(kept), "Kept('s1', (-2,))")

    def test_by_a_table_of_the_test(self):
        for chance in cases(1, 80):
            keys = some_keys(chance, 4)
            sketch = some_sketch(chance, keys, 3, 3)
            seed = chance.choice(sketch.seeds())
            kept, table = Kept(sketch, seed), Table()
            for _ in range(12):
                what = chance.randint(0, 4)
                key, number = chance.choice(keys + ["z9"]), chance.choice([0, 1, -1, 7, 10 ** 19 + 3, -10 ** 19 - 9])
                more = some_table(chance, keys + ["y"])
                if what == 0:
                    kept.change(key, number)
                    table = table + Table({key: number})
                elif what == 1:
                    kept.add(more)
                    table = table + more
                elif what == 2:
                    other = Kept(Sketch([(name, weight, note) for name, weight, note in sketch.walk()]), seed)
                    other.add(more)
                    before = other.shown
                    kept.take_in(other)
                    self.assertEqual(other.shown, before)
                    table = table + more
                elif what == 3 and sum(map(abs, table.counts().values())) < 10 ** 25:
                    kept.take_in(kept)
                    table = table.times(2)
                else:
                    kept = kept.copy()
                self.assertEqual(kept.shown, sketch.shows(seed, table))
                self.assertIs(type(kept.shown), tuple)

    def test_great_numbers(self):
        kept = Kept(COIN, "s1")
        kept.change("a", 12345678901234567890)
        kept.change("b", -98765432109876543210)
        self.assertEqual(kept.shown, (111111111011111111100,))
        kept.take_in(kept)
        self.assertEqual(kept.shown, (222222222022222222200,))

    def test_keys_that_no_sum_has(self):
        kept = Kept(APART, "s0")
        for key in ("b", "z", "p0", "abcdefgh"):
            kept.change(key, 5)
        self.assertEqual(kept.shown, (0,))

    def test_copies_go_their_own_way(self):
        kept = Kept(COIN, "s0")
        kept.use(HALVES)
        kept.change("a", 1)
        other = kept.copy()
        self.assertEqual((other, other.rule), (kept, HALVES))
        other.change("a", 4)
        other.use(None)
        self.assertEqual((kept.shown, kept.rule, other.shown, other.rule), ((1,), HALVES, (5,), None))
        kept.change("b", 2)
        self.assertEqual((kept.shown, other.shown), ((3,), (5,)))

    def test_taken_in_of_an_equal_sketch(self):
        kept, other = Kept(COIN, "s1"), Kept(signs(["b", "a"]), "s1")
        other.change("b", 2)
        kept.take_in(other)
        self.assertEqual((kept.shown, other.shown), ((-2,), (-2,)))

    def test_the_sketch_is_that_of_the_beginning(self):
        sums = [{"a": 1}]
        sketch = sketch_of(sums)
        kept = Kept(sketch, "s0")
        sums[0]["a"] = 5
        kept.change("a", 1)
        self.assertEqual(kept.shown, (1,))
        with self.assertRaises(AttributeError):
            kept.shown = (2,)
        with self.assertRaises(AttributeError):
            kept.rule = HALVES


class Wrong(unittest.TestCase):
    def test_seeds(self):
        refused(self, UnknownSeed, NO_NAMES + ["s2", "x", COIN, Ratio(1)], lambda value: Kept(COIN, value))

    def test_changes(self):
        kept = Kept(COIN, "s0")
        kept.change("a", 1)
        refused(self, InvalidName, NO_NAMES, lambda value: kept.change(value, 1))
        refused(self, InvalidName, NO_NAMES, lambda value: kept.change(value, None))
        for key in NAMES:
            refused(self, InvalidNumber, NO_INTEGERS + [Ratio(1)], lambda value: kept.change(key, value))
        tables = [value for value in NO_NAMES + NO_INTEGERS + [{"a": 1}, COIN, kept, A, Note([])]]
        refused(self, InvalidTable, tables, kept.add)
        self.assertEqual(kept.shown, (1,))

    def test_taken_in(self):
        kept = Kept(COIN, "s0")
        kept.change("a", 1)
        others = [Kept(COIN, "s1"), Kept(APART, "s0"), Kept(sketch_of([{"a": 1, "b": 1}]), "s0"),
                  Kept(sketch_of([{"a": 1, "b": 1}], [{"a": 1, "b": -1}], weights=[Ratio(1, 3), Ratio(2, 3)]), "s0"),
                  Kept(COIN.only(["s0"]), "s0"), [kept]]
        refused(self, InvalidKept, NO_KEPT + others, kept.take_in)
        self.assertEqual(kept, kept.copy())
        self.assertEqual(kept.shown, (1,))

    def test_rules(self):
        kept = Kept(COIN, "s0")
        kept.use(HALVES)
        wrong = [True, 0, 1, "p0", [], {}, {"s0": P, "s1": P}, Odd(), P, COIN, kept, Rule({}), Rule({"s0": P}),
                 Rule({"s0": P, "s1": P, "s2": P}), Rule({"s0": P, "x": P}),
                 Rule({"s0": P, "s1": Question.of_key("p1")})]
        refused(self, InvalidRule, wrong, kept.use)
        self.assertEqual(kept.rule, HALVES)


class Answers(unittest.TestCase):
    def test_rules_set_and_taken_away(self):
        kept = Kept(COIN, "s1")
        kept.change("a", 3)
        with self.assertRaises(NoRule):
            kept.answer()
        self.assertIsNone(kept.use(HALVES))
        self.assertEqual(kept.answer(), Ratio(-9, 2))
        self.assertIsNone(kept.use(rule=None))
        self.assertIsNone(kept.rule)
        with self.assertRaises(NoRule):
            kept.answer()
        self.assertEqual(kept.shown, (3,))

    def test_values_of_formulas(self):
        for chance in cases(2, 60):
            keys = some_keys(chance, 3)
            sketch, table = some_sketch(chance, keys, 4, 3), some_table(chance, keys)
            rule = some_rule(chance, sketch)
            mean = 0
            for kept in Kept.of_table(sketch, table):
                kept.use(rule)
                counts = {f"p{at}": number for at, number in enumerate(sketch.shows(kept.seed, table))}
                self.assertEqual(kept.answer(), rule.formula(kept.seed).at(Table(counts)))
                self.assertIs(type(kept.answer()), Ratio)
                mean += fraction(sketch.weight(kept.seed)) * fraction(kept.answer())
            self.assertEqual(mean_at(sketch, rule, table), ratio(mean))

    def test_of_table(self):
        table = Table({"a": 2, "b": 5})
        found = Kept.of_table(table=table, sketch=COIN)
        self.assertIs(type(found), list)
        self.assertEqual([(kept.seed, kept.shown, kept.rule) for kept in found],
                [("s0", (7,), None), ("s1", (-3,), None)])
        self.assertTrue(all(kept.sketch == COIN for kept in found))
        names = Sketch([("z", Ratio(1, 2), Note([])), ("a", Ratio(1, 2), Note([]))])
        self.assertEqual([kept.seed for kept in Kept.of_table(names, Table())], ["z", "a"])
        refused(self, InvalidTable, NO_NAMES + NO_INTEGERS + [{"a": 1}, COIN], lambda value: Kept.of_table(COIN, value))
        found[0].change("a", 1)
        self.assertEqual((found[0].shown, found[1].shown), ((8,), (-3,)))


class Averages(unittest.TestCase):
    def test_the_value_of_the_mean(self):
        for chance in cases(3, 60):
            keys = some_keys(chance, 3)
            sketch, table = some_sketch(chance, keys, 4, 2), some_table(chance, keys)
            rule = some_rule(chance, sketch)
            kept = Kept.of_table(sketch, table)
            for one in kept:
                one.use(rule)
            chance.shuffle(kept)
            self.assertEqual(Kept.average(kept), mean_at(sketch, rule, table))
            self.assertEqual(Kept.average(kept=tuple(kept[::-1])), mean_at(sketch, rule, table))
            self.assertIs(type(Kept.average(kept)), Ratio)

    def test_a_question_that_is_answered(self):
        sketch = buckets(["a", "b", "c"], 2)
        rule, table = rule_for(sketch, A * B - B), Table({"a": 4, "b": -7, "c": 100})
        kept = Kept.of_table(sketch, table)
        for one in kept:
            one.use(rule)
        self.assertEqual(Kept.average(kept), Ratio(-21))

    def test_of_whatever_tables_and_rules(self):
        one, other = Kept(COIN, "s0"), Kept(signs(["a", "b"]), "s1")
        one.change("a", 3)
        one.use(Rule({"s0": P, "s1": P * 100}))
        other.use(Rule({"s0": P, "s1": P * P + 1}))
        other.change("b", 2)
        self.assertEqual(Kept.average([other, one]), Ratio(4))
        self.assertEqual(one.average([one, other]), Ratio(4))

    def test_seeds_out_of_order(self):
        sketch = Sketch([("z", Ratio(1, 3), Note.of_keys("a")), ("b", Ratio(2, 3), Note.of_keys("a"))])
        kept = Kept.of_table(sketch, Table({"a": 6}))
        for one in kept:
            one.use(Rule({"z": P, "b": P * 10}))
        self.assertEqual([Kept.average(kept), Kept.average(kept[::-1])], [Ratio(42)] * 2)

    def test_wrong_lists(self):
        kept = Kept.of_table(COIN, Table({"a": 1}))
        other = Kept.of_table(sketch_of([{"a": 1}], [{"a": 1}]), Table())
        third = Kept.of_table(sketch_of([{"a": 1, "b": 1}], [{"a": 1, "b": -1}], weights=[Ratio(1, 3), Ratio(2, 3)]),
                Table())
        values = NO_KEPT + [kept[:1], kept[1:], kept + kept[:1], [kept[0], kept[0]], [kept[0], other[1]],
                {"s0": kept[0]},
                            [kept[0], third[1]], kept + [None], [None], [kept], kept[0], kept + other, [kept[0], "s1"]]
        refused(self, InvalidKept, values, Kept.average)

    def test_without_a_rule(self):
        kept = Kept.of_table(COIN, Table({"a": 1}))
        for rules in ((None, None), (HALVES, None), (None, HALVES)):
            for one, rule in zip(kept, rules):
                one.use(rule)
            with self.assertRaises(NoRule):
                Kept.average(kept)
            with self.assertRaises(InvalidKept):
                Kept.average(kept[:1])


class Trials(unittest.TestCase):
    def setUp(self):
        self.kept = Kept(COIN, "s1")
        self.kept.change("a", 3)

    def test_what_was_shown_and_the_rule_come_back(self):
        with self.kept.trial():
            self.kept.change("b", 1)
            self.kept.use(HALVES)
            self.assertEqual((self.kept.shown, self.kept.answer()), ((2,), Ratio(-2)))
        self.assertEqual((self.kept.shown, self.kept.rule), ((3,), None))
        self.kept.use(HALVES)
        with self.kept.trial():
            self.kept.use(None)
            self.kept.take_in(self.kept)
        self.assertEqual((self.kept.shown, self.kept.rule), ((3,), HALVES))

    def test_errors_are_passed_on(self):
        for error in (ValueError("x"), KeyError("y"), InvalidName("z"), NoRule()):
            with self.assertRaises(type(error)) as held:
                with self.kept.trial():
                    self.kept.change("a", 10)
                    self.kept.use(HALVES)
                    raise error
            self.assertIs(held.exception, error)
            self.assertEqual((self.kept.shown, self.kept.rule), ((3,), None))
        with self.assertRaises(InvalidNumber):
            with self.kept.trial():
                self.kept.change("a", 10)
                self.kept.change("a", True)
        self.assertEqual(self.kept.shown, (3,))

    def test_one_within_another(self):
        with self.kept.trial():
            self.kept.change("a", 1)
            with self.kept.trial():
                self.kept.change("a", 1)
                self.kept.use(HALVES)
                self.assertEqual(self.kept.shown, (5,))
            self.assertEqual((self.kept.shown, self.kept.rule), ((4,), None))
        self.assertEqual(self.kept.shown, (3,))

    def test_one_at_another_time(self):
        trial = self.kept.trial()
        self.kept.change("a", 1)
        for _ in range(2):
            with trial:
                self.kept.change("a", 1)
            self.assertEqual(self.kept.shown, (4,))
            self.kept.change("a", 0)

    def test_other_kept_notes_are_not_restored(self):
        other = self.kept.copy()
        with self.kept.trial():
            other.change("a", 1)
            self.kept.take_in(other)
        self.assertEqual((self.kept.shown, other.shown), ((3,), (4,)))


class Tried(unittest.TestCase):
    def setUp(self):
        self.kept = Kept(COIN, "s1")
        self.kept.change("a", 3)

    def unchanged(self, rule=None):
        self.assertEqual((self.kept.shown, self.kept.rule), ((3,), rule))

    def test_written_out(self):
        self.assertEqual(tried(self.kept, [("a", 1), ("b", 2), ("z", 9), ("a", -6)]), [(4,), (2,), (2,), (-4,)])
        self.assertEqual(tried(changes=(("a", 1),), kept=self.kept), [(4,)])
        self.assertEqual(tried(self.kept, []), [])
        self.unchanged()

    def test_by_a_table_of_the_test(self):
        for chance in cases(4, 30):
            keys = some_keys(chance, 3)
            sketch, table = some_sketch(chance, keys, 2, 3), some_table(chance, keys)
            kept = Kept.of_table(sketch, table)[-1]
            changes = [(chance.choice(keys), chance.randint(-9, 9)) for _ in range(chance.randint(0, 6))]
            expected = []
            for key, number in changes:
                table = table + Table({key: number})
                expected.append(sketch.shows(kept.seed, table))
            self.assertEqual(tried(kept, changes), expected)
            self.assertEqual(tried(kept, changes), expected)

    def test_with_a_rule(self):
        self.assertEqual(tried(self.kept, [("a", 1)], rule=HALVES), [(4,)])
        self.unchanged()
        self.kept.use(HALVES)
        self.assertEqual(tried(self.kept, [("a", 1)], rule=None), [(4,)])
        self.assertEqual(tried(self.kept, [("a", 1)], rule=HALVES * 2), [(4,)])
        self.unchanged(HALVES)

    def test_wrong_rules(self):
        wrong = [True, 0, "p0", {}, Odd(), Rule({}), Rule({"s0": P})]
        refused(self, InvalidRule, wrong, lambda value: tried(self.kept, [("a", 1)], rule=value))
        refused(self, InvalidRule, wrong, lambda value: tried(self.kept, [(None, None)], rule=value))
        self.unchanged()

    def test_wrong_lists(self):
        for value in (None, True, 0, "ab", {"a": 1}, {("a", 1)}, Odd(), Table({"a": 1}), self.kept):
            self.assertIsNone(position_of(self, InvalidTables, lambda: tried(self.kept, value)))
            self.assertIsNone(position_of(self, InvalidTables, lambda: tried(self.kept, value, rule=Rule({}))))
        for pair in (None, 1, "ab", [], (), ["a", 1], ("a",), ("a", 1, 1), {"a": 1, "b": 2}, Odd(), Table({"a": 1})):
            self.assertEqual(position_of(self, InvalidTables, lambda: tried(self.kept, [pair])), 0)
            changes = [("a", 1), (None, None), pair, None]
            self.assertEqual(position_of(self, InvalidTables, lambda: tried(self.kept, changes, rule=Rule({}))), 2)
        self.unchanged()

    def test_a_change_that_is_refused_behind_others(self):
        refused(self, InvalidName, NO_NAMES, lambda value: tried(self.kept, [("a", 1), (value, None), ("b", None)]))
        refused(self, InvalidNumber, NO_INTEGERS, lambda value: tried(self.kept, (("a", 1), ("b", value)), rule=HALVES))
        self.unchanged()
        self.kept.use(HALVES)
        with self.assertRaises(InvalidName):
            tried(self.kept, [("b", 4), ("B", 4)], rule=HALVES * 2)
        self.unchanged(HALVES)


class Compared(unittest.TestCase):
    def test_equality(self):
        one, other = Kept(COIN, "s0"), Kept(signs(["b", "a"]), "s0")
        self.assertTrue(one == other and not one != other)
        other.use(HALVES)
        self.assertEqual(one, other)
        other.change("a", 1)
        self.assertNotEqual(one, other)
        one.change("b", 1)
        self.assertEqual(one, other)
        self.assertNotEqual(one, Kept(COIN, "s1"))
        self.assertNotEqual(Kept(COIN, "s0"), Kept(COIN, "s1"))
        weights = sketch_of([{"a": 1, "b": 1}], [{"a": 1, "b": -1}], weights=[Ratio(1, 3), Ratio(2, 3)])
        self.assertNotEqual(Kept(COIN, "s0"), Kept(weights, "s0"))
        for value in (None, "Kept('s0', (0,))", ("s0", (0,)), COIN, Odd(), 0):
            self.assertFalse(Kept(COIN, "s0") == value)

    def test_repr(self):
        kept = Kept(sketch_of([{"a": 1}, {"b": 1}], []), "s0")
        kept.change("a", 3)
        self.assertEqual(repr(kept), "Kept('s0', (3, 0))")
        self.assertEqual(repr(Kept(kept.sketch, "s1")), "Kept('s1', ())")
        self.assertEqual(repr(Kept(COIN, "s1")), "Kept('s1', (0,))")


if __name__ == "__main__":
    unittest.main()
