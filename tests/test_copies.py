"""Copies: points 24 and 25, and COPIES of point 4."""

import unittest
from fractions import Fraction
from itertools import combinations, combinations_with_replacement

from made import asked, cases, fraction, in_span, is_answered, rank, sample, signs, sketch_of, some_keys
from made import some_question, some_sketch, sum_of_counts, sums_of, tables_up_to
from notesums.answers import can_answer
from notesums.copies import copies_rule, copies_twins, is_copies_rule, is_copies_twins, is_unseen, least_copies
from notesums.copies import rule_of_copies, unseen_base, unseen_pair
from notesums.errors import InvalidCount
from notesums.notes import Note
from notesums.questions import Question
from notesums.ratios import Ratio
from notesums.rules import Rule, is_rule
from notesums.sketches import Sketch
from notesums.tables import Table
from wrong import NO_INTEGERS, NO_NAMES, Odd, refused

NOTHING = Question()
A, B, C = (Question.of_key(key) for key in "abc")
P, Q = Question.of_key("p0"), Question.of_key("p1")
COIN, APART = signs(["a", "b"]), sample(["a", "b"], 1)
NO_COUNTS = NO_INTEGERS + [-1, Ratio(1), A]
ONE = [(Table({"a": 1, "b": 1}), 1), (Table(), 1)]
OTHER = [(Table({"a": 1}), 1), (Table({"b": 1}), 1)]


def sets_of(sketch, many):
    """All sets of at most so many seeds, in the sequence of the sketch."""
    names = sketch.seeds()
    return [some for size in range(min(many, len(names)) + 1) for some in combinations(names, size)]


def notes_of_sets(sketch, many):
    """For each set the sums of its seeds, in the sequence of the sketch."""
    return {some: [row for name in some for row in sums_of(sketch.note(name))] for some in sets_of(sketch, many)}


def answered_by_sets(sketch, question, many):
    """Whether so many copies answer the question, by point 24."""
    return is_answered(list(notes_of_sets(sketch, many).values()), question)


def total_of(sketch, rule):
    """The question that is the sum of the formulas of a copies rule."""
    total = NOTHING
    for some, formula in rule.items():
        sums = [row for name in sketch.seeds() if name in some for row in sketch.note(name).questions()]
        total = total + formula.put({f"p{at}": row for at, row in enumerate(sums)})
    return total


def counted(sketch, question, many, value):
    """Whether two lists are copies twins, by counting what the notes of sets show."""
    one, other = value
    for some in sets_of(sketch, many):
        for degree in range(question.degree + 1):
            width = sum(len(sketch.note(name)) for name in some)
            for positions in combinations_with_replacement(range(width), degree):
                totals = []
                for pairs in (one, other):
                    total = Fraction(0)
                    for table, weight in pairs:
                        shown = [number for name in some for number in sketch.shows(name, table)]
                        product = fraction(weight)
                        for position in positions:
                            product *= shown[position]
                        total += product
                    totals.append(total)
                if totals[0] != totals[1]:
                    return False
    values = [sum((fraction(w) * fraction(question.at(t)) for t, w in pairs), Fraction(0)) for pairs in (one, other)]
    return values[0] != values[1]


class LeastCopies(unittest.TestCase):
    def test_the_document(self):
        found = [least_copies(APART, A * B), least_copies(COIN, A * A), least_copies(sample(["a"], 1), B)]
        self.assertEqual(found, [2, 2, None])

    def test_without_products(self):
        for sketch in (COIN, sketch_of([]), sketch_of([], [])):
            for question in (NOTHING, Question.constant(Ratio(-2, 3))):
                self.assertEqual(least_copies(sketch=sketch, question=question), 0)

    def test_written_out(self):
        three = sample(["a", "b", "c"], 1)
        self.assertEqual(least_copies(three, A * B * C), 3)
        self.assertEqual(least_copies(three, A * A * C), 2)
        self.assertEqual(least_copies(three, A + 1), 1)
        self.assertIsNone(least_copies(sketch_of([{"a": 1, "b": 1}]), A * B))
        self.assertEqual(least_copies(sketch_of([{"a": 1, "b": 1}]), (A + B).power(2)), 1)
        self.assertIsNone(least_copies(sketch_of([]), A))

    def test_against_the_sets(self):
        for chance in cases(1, 120):
            keys = some_keys(chance, 3)
            sketch = some_sketch(chance, keys, 3, 1)
            question = some_question(chance, keys, 3, 4)
            found = least_copies(sketch, question)
            counts = [many for many in range(4) if answered_by_sets(sketch, question, many)]
            self.assertEqual(found, counts[0] if counts else None)
            if found is not None and question.degree > 0:
                self.assertLessEqual(found, question.degree)
            self.assertEqual(found is None, unseen_pair(sketch, question) is not None)
            self.assertEqual(found in (0, 1), can_answer(sketch, question))


class CopiesRules(unittest.TestCase):
    def test_a_rule_or_twins(self):
        for chance in cases(2, 100):
            keys = some_keys(chance, 3)
            sketch = some_sketch(chance, keys, 4, 2)
            question = some_question(chance, keys, 3, 4)
            least = least_copies(sketch, question)
            for many in range(4):
                rule = copies_rule(sketch=sketch, question=question, many=many)
                twins = copies_twins(sketch=sketch, question=question, many=many)
                self.assertEqual(rule is not None, least is not None and many >= least)
                self.assertEqual(rule is None, twins is not None)
                if rule is not None:
                    self.check_rule(sketch, question, many, rule)
                else:
                    self.check_twins(sketch, question, many, twins)

    def check_rule(self, sketch, question, many, rule):
        self.assertIs(type(rule), dict)
        self.assertEqual(list(rule), sorted(rule))
        self.assertEqual(total_of(sketch, rule), question)
        for some, formula in rule.items():
            self.assertEqual((list(some), len(some) <= many), (sorted(set(some)), True))
            self.assertLessEqual(formula.degree, question.degree)
        self.assertIs(is_copies_rule(sketch, question, many, rule), True)
        self.assertIs(is_copies_rule(sketch, question, many + 1, rule), True)
        self.assertEqual(copies_rule(sketch, question, many), rule)

    def check_twins(self, sketch, question, many, twins):
        self.assertTrue(counted(sketch, question, many, twins))
        self.assertIs(is_copies_twins(sketch, question, many, twins), True)
        self.assertIs(type(twins), tuple)
        for table, weight in twins[0] + twins[1]:
            self.assertTrue(table.is_plain)
            self.assertLessEqual(sum_of_counts(table), question.degree)

    def test_many_sums_and_great_counts(self):
        sketch = sketch_of(*[[{key: 1, "a": at} for key in "abcde"] for at in range(6)])
        question = A * B * C - Question.of_key("e").power(3) * 2
        for many in (3, 6, 10 ** 25):
            rule = copies_rule(sketch, question, many)
            self.assertEqual(total_of(sketch, rule), question)
            self.assertIs(is_copies_rule(sketch, question, many, rule), True)

    def test_keys_beyond_p9(self):
        # Twelve sums in the notes of two seeds: p2 and p10 stand for different ones.
        sketch = sketch_of([{"a": 1}, {"b": 1}] + [{}] * 4, [{}] * 4 + [{"c": 1}, {}])
        rule = {("s0", "s1"): Question.of_key("p10") * P}
        self.assertIs(is_copies_rule(sketch, A * C, 2, rule), True)
        self.assertIs(is_copies_rule(sketch, A * C, 2, {("s0", "s1"): Question.of_key("p12") * P}), False)
        self.assertEqual(total_of(sketch, copies_rule(sketch, A * C, 2)), A * C)

    def test_the_sums_stand_in_the_sequence_of_the_sketch(self):
        sketch = Sketch([("z", Ratio(1, 2), Note.of_keys("a")), ("b", Ratio(1, 2), Note.of_keys("b", "c"))])
        self.assertIs(is_copies_rule(sketch, A * C, 2, {("b", "z"): P * Question.of_key("p2")}), True)
        self.assertIs(is_copies_rule(sketch, B * C, 2, {("b", "z"): P * Q}), False)
        self.assertEqual(total_of(sketch, copies_rule(sketch, A * C, 2)), A * C)
        self.assertEqual(list(copies_rule(sketch, A * C, 2)), [("b", "z")])

    def test_nothing_and_constants(self):
        for many in (0, 1, 2):
            self.assertEqual(total_of(COIN, copies_rule(COIN, NOTHING, many)), NOTHING)
            self.assertEqual(total_of(COIN, copies_rule(COIN, Question.constant(3), many)), Question.constant(3))
        self.assertEqual(copies_rule(COIN, Question.constant(3), 0), {(): Question.constant(3)})
        self.assertIs(is_copies_rule(COIN, NOTHING, 0, {}), True)
        self.assertIs(is_copies_rule(COIN, NOTHING, 0, {(): NOTHING}), True)
        self.assertIs(is_copies_rule(COIN, A, 0, {}), False)

    def test_what_is_no_count(self):
        refused(self, InvalidCount, NO_COUNTS, lambda many: copies_rule(COIN, A, many))
        refused(self, InvalidCount, NO_COUNTS, lambda many: is_copies_rule(COIN, A, many, None))
        refused(self, InvalidCount, NO_COUNTS, lambda many: copies_twins(COIN, A, many))
        refused(self, InvalidCount, NO_COUNTS, lambda many: is_copies_twins(COIN, A, many, None))
        refused(self, InvalidCount, NO_COUNTS + [0], lambda many: rule_of_copies(COIN, A, many))
        refused(self, InvalidCount, [-1], lambda many: copies_rule(COIN, A.power(5), many))


class Judging(unittest.TestCase):
    def test_right_rules(self):
        self.assertIs(is_copies_rule(APART, A * B, 2, {("s0", "s1"): P * Q}), True)
        self.assertIs(is_copies_rule(sketch=APART, question=A * B + A + 1, many=3,
                                     value={("s1",): Question.constant(1), ("s0", "s1"): P * Q, ("s0",): P}), True)
        self.assertIs(is_copies_rule(APART, A + B, 1, {("s0",): P, ("s1",): P}), True)
        self.assertIs(is_copies_rule(APART, A * 0 + 2, 0, {(): Question.constant(2)}), True)

    def test_wrong_rules(self):
        for question, many, value in (
            (A * B, 1, {("s0", "s1"): P * Q}), (A * B, 2, {("s1", "s0"): P * Q}), (A * B, 2, {("s0", "s1"): P}),
            (A * B, 2, {("s0", "s0"): P * Q}), (A * B, 2, {("s0", "s1"): P * Question.of_key("p2")}), (A, 1, {}),
            (A * B, 2, {("s0", "s1"): A * B}), (A, 1, {("s0",): P, ("s2",): P}), (A, 1, {("s0",): P, ("s2",): NOTHING}),
            (A, 2, {("s0",): P, ("a", "s0"): NOTHING}), (A, 1, {("s0",): P, (): A}),
            (A, 1, {("s0",): P, (): P * 0 + 1}), (A, 1, {("s0",): P, ("s1",): 0}), (A, 1, {("s0",): P, ("s1",): None}),
            (A, 1, {"s0": P}), (A, 1, {("s0",): P, "s1": NOTHING}), (A, 1, {("s0",): P, (1,): NOTHING}),
            (A, 1, {("s0",): P, (True,): NOTHING}), (A, 1, {("s0",): P, None: NOTHING}), (A, 0, {("s0",): P}),
            (A, 5, {("s0",): P, ("s0", "s0"): NOTHING}), (A, 1, {("s0",): P, ("s0", None): NOTHING}),
            (A, 1, {("s0",): P, (("s0",),): NOTHING}), (A, 1, {("s0",): P, ("s0", "s1"): NOTHING}),
        ):
            self.assertIs(is_copies_rule(APART, question, many, value), False, value)

    def test_values_of_other_kinds(self):
        for value in NO_NAMES + NO_INTEGERS + [A, Rule({}), COIN, [("s0", P)], [(("s0",), P)], Odd(), Ratio(1)]:
            if value != {}:
                self.assertIs(is_copies_rule(APART, A, 1, value), False)
                self.assertIs(is_copies_rule(APART, NOTHING, 1, value), False)
            self.assertIs(is_copies_twins(APART, A * B, 1, value), False)

    def test_any_change_of_a_rule(self):
        for chance in cases(3, 40):
            keys = some_keys(chance, 2)
            sketch, question = some_sketch(chance, keys, 3, 2), some_question(chance, keys, 2, 3)
            rule = copies_rule(sketch, question, 2)
            if rule:
                some = chance.choice(list(rule))
                rule[some] = rule[some] + chance.choice([0, 1, P * 0])
                self.assertEqual(is_copies_rule(sketch, question, 2, rule), total_of(sketch, rule) == question)

    def test_twins(self):
        self.assertIs(is_copies_twins(APART, A * B, 1, (ONE, OTHER)), True)
        self.assertIs(is_copies_twins(sketch=APART, question=A * B, many=0, value=(OTHER, ONE)), True)
        self.assertIs(is_copies_twins(APART, A * B, 2, (ONE, OTHER)), False)
        self.assertIs(is_copies_twins(APART, A, 1, (ONE, OTHER)), False)
        self.assertIs(is_copies_twins(APART, A, 0, ([(Table({"a": 1}), 1)], [(Table(), 1)])), True)
        self.assertIs(is_copies_twins(APART, A, 0, ([(Table({"a": 1}), 1)], [])), False)
        self.assertIs(is_copies_twins(APART, A, 0, ([(Table({"a": 1}), 2)], [(Table(), Ratio(4, 2))])), True)
        for value in ([ONE, OTHER], (ONE,), (ONE, OTHER, []), (ONE, ONE), ([], []), (ONE, None), (ONE, OTHER + OTHER)):
            self.assertIs(is_copies_twins(APART, A * B, 1, value), False)


class RulesOfCopies(unittest.TestCase):
    def test_rules_for_the_copies(self):
        for chance in cases(4, 80):
            keys = some_keys(chance, 3)
            sketch = some_sketch(chance, keys, 3, 2)
            question = some_question(chance, keys, 2, 4)
            least = least_copies(sketch, question)
            for many in (1, 2):
                rule = rule_of_copies(sketch=sketch, question=question, many=many)
                self.assertEqual(rule is not None, least is not None and least <= many)
                if rule is not None:
                    self.assertTrue(is_rule(sketch.copies(many), question, rule))
                    self.assertLessEqual(rule.degree, question.degree)

    def test_one_copy_has_the_seeds_of_the_sketch(self):
        sketch = Sketch([("x", 1, Note.of_keys("a"))])
        self.assertEqual(rule_of_copies(sketch, A, 1).seeds(), ["x"])
        self.assertEqual(rule_of_copies(sketch, A, 2).seeds(), ["s0"])
        self.assertTrue(is_rule(APART.copies(3), A * B, rule_of_copies(APART, A * B, 3)))
        self.assertIsNone(rule_of_copies(APART, A * B, 1))
        self.assertEqual(rule_of_copies(Sketch([("x", 1, Note([]))]), NOTHING + 1, 10 ** 25).seeds(), ["s0"])


class Unseen(unittest.TestCase):
    def test_written_out(self):
        self.assertEqual(unseen_base(COIN), [])
        self.assertEqual(unseen_base(sketch_of([])), [])
        self.assertEqual(unseen_base(sketch_of([{"a": 1, "b": 2}])), [{"a": Ratio(1), "b": Ratio(-1, 2)}])
        self.assertEqual(unseen_base(sketch=sketch_of([{"a": 1, "b": 1, "c": 1}])),
                         [{"a": Ratio(1), "c": Ratio(-1)}, {"b": Ratio(1), "c": Ratio(-1)}])
        self.assertEqual(unseen_base(sketch_of([{"b": 1}], [{"a": 1, "c": 2}])), [{"a": Ratio(1), "c": Ratio(-1, 2)}])

    def test_the_reduced_form(self):
        for chance in cases(5, 150):
            keys = some_keys(chance, 5)
            sketch = some_sketch(chance, keys, 2, 2)
            keys = sketch.used_keys()
            sums = [[row.get(key, 0) for key in keys] for _, _, note in sketch.walk() for row in note.sums()]
            base = unseen_base(sketch)
            self.assertEqual(len(base), len(keys) - rank(sums))
            firsts = [list(row)[0] for row in base]
            self.assertEqual(firsts, sorted(set(firsts)))
            for row, first in zip(base, firsts):
                self.assertEqual((list(row), row[first]), (sorted(row), Ratio(1)))
                self.assertEqual([other for other in base if first in other], [row])
                self.assertEqual({type(number) for number in row.values()}, {Ratio})
                self.assertFalse(Ratio(0) in row.values())
                for line in sums:
                    self.assertEqual(sum(fraction(row.get(key, Ratio(0))) * n for key, n in zip(keys, line)), 0)
            base.append({})
            self.assertEqual(len(unseen_base(sketch)), len(base) - 1)

    def test_is_unseen(self):
        sketch = sketch_of([{"a": 1, "b": 1}], [{"c": 2}])
        for counts in ({}, {"a": 1, "b": -1}, {"a": -5, "b": 5, "z": 7}, {"z": 1}):
            self.assertIs(is_unseen(sketch, Table(counts)), True)
            self.assertIs(is_unseen(sketch=sketch, value=Table(counts)), True)
        for counts in ({"a": 1}, {"c": 1}, {"a": 1, "b": -1, "c": 1}, {"a": 1, "b": 1}):
            self.assertIs(is_unseen(sketch, Table(counts)), False)
        for value in NO_NAMES + NO_INTEGERS + [A, COIN, Note([]), {"a": 1, "b": -1}, Table]:
            self.assertIs(is_unseen(sketch, value), False)

    def test_pairs(self):
        for chance in cases(6, 150):
            keys = some_keys(chance, 3)
            sketch = some_sketch(chance, keys, 2, 2)
            question = some_question(chance, keys + ["z"][:chance.randint(0, 1)], 3, 4)
            pair = unseen_pair(sketch, question)
            if pair is None:
                self.assertFalse({"z"} & set(question.used_keys()))
                self.check_no_pair(sketch, question, keys)
            else:
                one, other = pair
                self.assertIs(type(pair), tuple)
                self.assertTrue(one.is_plain and other.is_plain)
                self.assertNotEqual(question.at(one), question.at(other))
                self.assertTrue(all(note.shows(one) == note.shows(other) for _, _, note in sketch.walk()))
                self.assertEqual(unseen_pair(sketch=sketch, question=question), pair)

    def check_no_pair(self, sketch, question, keys):
        found = {}
        for table in tables_up_to(keys, 2):
            shown = tuple(note.shows(table) for _, _, note in sketch.walk())
            self.assertEqual(found.setdefault(shown, question.at(table)), question.at(table))

    def test_pairs_written_out(self):
        self.assertIsNone(unseen_pair(COIN, A * A))
        self.assertIsNone(unseen_pair(sketch_of([]), NOTHING))
        self.assertIsNone(unseen_pair(sketch_of([]), Question.constant(1)))
        self.assertIsNotNone(unseen_pair(APART, C))
        self.assertIsNone(unseen_pair(sketch_of([{"a": 1, "b": 1}]), (A + B).power(3)))
        # The difference is 0 at many small tables.
        question = (A - B) * (A - B - 1) * (A - B + 1)
        one, other = unseen_pair(sketch_of([{"a": 1, "b": 1}]), question)
        self.assertNotEqual(question.at(one), question.at(other))

    def test_more_than_six_seeds(self):
        sketch = sketch_of(*[[{"a": 1, "b": at}] for at in range(12)])
        self.assertEqual(unseen_base(sketch), [])
        self.assertIs(is_unseen(sketch, Table({"a": 1})), False)
        self.assertIsNone(unseen_pair(sketch, A * B))

    def test_the_plain_ways_of_the_tests(self):
        self.assertEqual(asked({"ab": 1}), A * B)
        self.assertTrue(in_span([[1, 0], [0, 1]], [5, 7]))


class Listed(unittest.TestCase):
    def test_the_file(self):
        for function in (least_copies, copies_rule, is_copies_rule, copies_twins, is_copies_twins, rule_of_copies,
                         unseen_base, is_unseen, unseen_pair):
            self.assertEqual(function.__module__, "notesums.copies")


if __name__ == "__main__":
    unittest.main()
