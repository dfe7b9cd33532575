"""What can be answered: points 14, 15, 16 and 18."""

import unittest
from fractions import Fraction
from itertools import combinations_with_replacement

from made import asked, cases, in_span, is_answered, notes_of, products_of_sums, rank, sample, signs, sketch_of
from made import some_keys, some_question, some_sketch, sums_of, times, weights_of
from notesums.answers import answer_base, answers_as_much, can_answer, failing_degrees, remainder, rule_for
from notesums.answers import unmatched_seeds, zero_base
from notesums.errors import InvalidCount
from notesums.notes import Note
from notesums.questions import Question
from notesums.ratios import Ratio
from notesums.rules import Rule, is_rule, mean_of
from wrong import NO_INTEGERS, refused

NOTHING = Question()
A, B, C = (Question.of_key(key) for key in "abc")
COIN, APART = signs(["a", "b"]), sample(["a", "b"], 1)


class Answering(unittest.TestCase):
    def test_the_document(self):
        self.assertEqual([can_answer(COIN, A * B), can_answer(COIN, A * A)], [True, False])
        self.assertEqual(str(remainder(COIN, A * A)), "-b*b")
        self.assertEqual(mean_of(COIN, rule_for(COIN, A * B)), A * B)
        self.assertIs(can_answer(sketch=APART, question=A * B), False)
        self.assertIs(can_answer(APART, A * A + B * 3 - Ratio(1, 2)), True)

    def test_against_the_fact_of_the_document(self):
        for chance in cases(1, 250):
            keys = some_keys(chance, 3)
            sketch = some_sketch(chance, keys, 4, 2)
            question = some_question(chance, keys, 3, 4)
            expected = is_answered(notes_of(sketch), question)
            self.assertIs(can_answer(sketch, question), expected)
            rule = rule_for(sketch, question)
            self.assertEqual(rule is not None, expected)
            if rule is not None:
                self.assertTrue(is_rule(sketch, question, rule))
                self.assertLessEqual(rule.degree, question.degree)
                self.assertEqual(rule_for(sketch, question), rule)

    def test_questions_that_are_means(self):
        for chance in cases(2, 80):
            keys = some_keys(chance, 4)
            sketch = some_sketch(chance, keys, 4, 3)
            rule = Rule({name: some_question(chance, [f"p{at}" for at in range(len(note))] or ["p0"], 3, 3)
                         if len(note) else Question.constant(2) for name, _, note in sketch.walk()})
            question = mean_of(sketch, rule)
            self.assertTrue(can_answer(sketch, question))
            self.assertTrue(is_rule(sketch, question, rule_for(sketch, question)))
            self.assertEqual(remainder(sketch, question), NOTHING)
            self.assertEqual(failing_degrees(sketch, question), [])

    def test_nothing_and_constants(self):
        for sketch in (COIN, sketch_of([]), sketch_of([], []), sketch_of([{}])):
            self.assertEqual(rule_for(sketch, NOTHING), Rule({name: NOTHING for name in sketch.seeds()}))
            rule = rule_for(sketch=sketch, question=Question.constant(Ratio(5, 3)))
            self.assertTrue(is_rule(sketch, Question.constant(Ratio(5, 3)), rule))
            self.assertEqual(rule.degree, 0)
            self.assertTrue(can_answer(sketch, NOTHING))

    def test_empty_notes(self):
        for sketch in (sketch_of([]), sketch_of([{}], [])):
            self.assertIs(can_answer(sketch, A), False)
            self.assertIsNone(rule_for(sketch, A + 1))
            self.assertEqual(remainder(sketch, A * B + 7), A * B)

    def test_weights_have_no_part(self):
        for weights in ([Ratio(1, 2)] * 2, [Ratio(1, 7), Ratio(6, 7)]):
            sketch = sketch_of([{"a": 1, "b": 1}], [{"a": 1, "b": -1}], weights=weights)
            self.assertTrue(is_rule(sketch, A * B, rule_for(sketch, A * B)))

    def test_keys_that_are_called_like_those_of_formulas(self):
        p0, p1 = Question.of_key("p0"), Question.of_key("p1")
        sketch = sketch_of([{"p1": 1, "p0": 2}, {"p0": 1}])
        question = p1 * p1 - p0 * p1 * Ratio(1, 3) + p0
        rule = rule_for(sketch, question)
        self.assertTrue(is_rule(sketch, question, rule))
        self.assertEqual(remainder(sketch_of([{"p1": 1}]), question), p0 - p0 * p1 * Ratio(1, 3))

    def test_keys_that_the_sketch_lacks(self):
        for question in (C, A * C, C * C + A * A):
            self.assertIs(can_answer(APART, question), False)
            self.assertIsNone(rule_for(APART, question))
        self.assertEqual(remainder(APART, C * C + A * A + A * C), C * C + A * C)

    def test_failing_degrees(self):
        self.assertEqual(failing_degrees(APART, A * B + A + 1), [2])
        self.assertEqual(failing_degrees(APART, A * A * B + A * B + B), [2, 3])
        self.assertEqual(failing_degrees(sketch=sketch_of([]), question=A * B + A + 1), [1, 2])
        self.assertEqual(failing_degrees(APART, NOTHING), [])
        for chance in cases(3, 60):
            keys = some_keys(chance, 3)
            sketch, question = some_sketch(chance, keys, 3, 2), some_question(chance, keys, 3, 5)
            expected = [d for d, part in question.parts().items() if not is_answered(notes_of(sketch), part)]
            self.assertEqual(failing_degrees(sketch, question), expected)

    def test_all_positions_of_a_note_can_be_used(self):
        sums = [{"a": 0}, {"a": 1, "b": 1}, {"a": 2, "b": 2}, {}, {"b": 1}, {"a": 1}, {"c": 1}, {"c": 1, "a": 1}]
        question = (A + B + C).power(3)
        self.assertTrue(is_rule(sketch_of(sums), question, rule_for(sketch_of(sums), question)))

    def test_great_numbers(self):
        great = 10 ** 29 + 7
        sketch = sketch_of([{"a": great, "b": 1}], [{"a": great, "b": -1}])
        self.assertTrue(is_rule(sketch, A * B, rule_for(sketch, A * B)))
        self.assertEqual(remainder(sketch, A * A), B * B * Ratio(-1, great * great))


class Bases(unittest.TestCase):
    def spanned(self, sketch, degree):
        """The lines of all products of sums, and the products over the keys, in order."""
        products = list(combinations_with_replacement(sketch.used_keys(), degree))
        found = [whole for sums in notes_of(sketch) for whole in products_of_sums(sums, degree)]
        return [[whole.get(keys, 0) for keys in products] for whole in found], products

    def test_written_out(self):
        self.assertEqual(answer_base(COIN, 2), [asked({"aa": 1, "bb": 1}), A * B])
        self.assertEqual(answer_base(sketch=APART, degree=2), [A * A, B * B])
        self.assertEqual(answer_base(COIN, 1), [A, B])
        self.assertEqual(answer_base(sketch_of([{"a": 2, "b": 3}]), 2),
                         [asked({"aa": 1, "ab": 3, "bb": Fraction(9, 4)})])
        for sketch in (COIN, sketch_of([]), sketch_of([], [])):
            self.assertEqual(answer_base(sketch, 0), [Question.constant(1)])
        for degree in (1, 2, 3, 4):
            self.assertEqual(answer_base(sketch_of([], [{}]), degree), [])

    def test_the_reduced_form(self):
        for chance in cases(4, 120):
            keys = some_keys(chance, 3)
            sketch = some_sketch(chance, keys, 4, 2)
            for degree in range(4):
                lines, products = self.spanned(sketch, degree)
                base = [weights_of(question) for question in answer_base(sketch, degree)]
                self.assertEqual(len(base), rank(lines))
                firsts = [products.index(min(weights)) for weights in base]
                self.assertEqual(firsts, sorted(set(firsts)))
                for weights, first in zip(base, firsts):
                    self.assertEqual(weights[products[first]], 1)
                    self.assertEqual([other for other in base if products[first] in other], [weights])
                    self.assertTrue(in_span(lines, [weights.get(keys, 0) for keys in products]))
                    self.assertEqual({len(keys) for keys in weights}, {degree})

    def test_degrees_that_are_no_counts(self):
        wrong = NO_INTEGERS + [-1, Ratio(1), A]
        refused(self, InvalidCount, wrong, lambda degree: answer_base(COIN, degree))
        refused(self, InvalidCount, wrong, lambda degree: zero_base(COIN, degree))

    def test_new_lists(self):
        answer_base(COIN, 2).append(A)
        zero_base(COIN, 1).append(A)
        self.assertEqual((len(answer_base(COIN, 2)), len(zero_base(COIN, 1))), (2, 1))


class Remainders(unittest.TestCase):
    def test_what_a_remainder_is(self):
        for chance in cases(5, 150):
            keys = some_keys(chance, 3)
            sketch = some_sketch(chance, keys, 4, 2)
            question = some_question(chance, keys + ["z"], 3, 5)
            left = remainder(sketch=sketch, question=question)
            self.assertTrue(can_answer(sketch, question - left))
            self.assertEqual(left == NOTHING, can_answer(sketch, question))
            for degree in range(4):
                for answered in answer_base(sketch, degree):
                    self.assertEqual(left.weight(answered.terms()[0][1]), Ratio(0))
            self.assertEqual(remainder(sketch, left), left)

    def test_equal_exactly_if_the_difference_is_answered(self):
        for chance in cases(6, 150):
            keys = some_keys(chance, 2)
            sketch = some_sketch(chance, keys, 3, 2)
            one = some_question(chance, keys, 2, 3)
            other = some_question(chance, keys, 2, 3)
            if chance.random() < 0.5:
                answered = answer_base(sketch, 2) + answer_base(sketch, 1)
                for question in answered:
                    one, other = one, one + question * chance.randint(-3, 3)
            self.assertEqual(remainder(sketch, one) == remainder(sketch, other), can_answer(sketch, one - other))


class Zeros(unittest.TestCase):
    def lines(self, sketch, degree):
        """What each product of at most a degree of positions, for each seed, is multiplied out."""
        found = []
        for _, _, note in sketch.walk():
            for some in range(degree + 1):
                found.extend(products_of_sums(sums_of(note), some))
        products = sorted({keys for whole in found for keys in whole})
        return [[whole.get(keys, 0) for keys in products] for whole in found]

    def columns(self, rules):
        """The weights of rules, one line for each."""
        places = sorted({(seed, keys) for rule in rules for seed in rule.seeds() for _, keys in rule.formula(seed).terms()})
        found = []
        for rule in rules:
            line = [rule.formula(seed).weight(keys) for seed, keys in places]
            found.append([Fraction(number.top, number.bottom) for number in line])
        return found

    def test_zero_bases(self):
        for chance in cases(7, 80):
            keys = some_keys(chance, 3)
            sketch = some_sketch(chance, keys, 4, 2)
            for degree in range(3):
                base = zero_base(sketch, degree)
                lines = self.lines(sketch, degree)
                self.assertEqual(len(base), len(lines) - rank(lines))
                self.assertEqual(rank(self.columns(base)), len(base))
                for rule in base:
                    self.assertTrue(is_rule(sketch, NOTHING, rule))
                    self.assertLessEqual(rule.degree, degree)
                    self.assertGreaterEqual(rule.degree, 0)
                self.assertEqual(zero_base(sketch=sketch, degree=degree), base)

    def test_degree_0(self):
        for many in (1, 2, 5, 12):
            self.assertEqual(len(zero_base(sketch_of(*[[]] * many), 0)), many - 1)

    def test_sums_that_depend_on_one_another(self):
        sketch = sketch_of([{"a": 1}, {"a": 2}, {}])
        base = zero_base(sketch, 1)
        self.assertEqual(len(base), 2)
        self.assertEqual(rank(self.columns(base)), 2)
        self.assertEqual(zero_base(sketch_of([{"a": 1}, {"b": 1}]), 2), [])

    def test_each_rule_of_nothing_comes_from_the_base(self):
        sketch = sketch_of([{"a": 1}, {"b": 1}], [{"a": 1}], weights=[Ratio(1, 3), Ratio(2, 3)])
        p0 = Question.of_key("p0")
        rule = Rule({"s0": p0 * p0 * 2 + 2 - p0 * 4, "s1": p0 * 2 - 1 - p0 * p0})
        self.assertEqual(mean_of(sketch, rule), NOTHING)
        base = zero_base(sketch, 2)
        self.assertEqual(rank(self.columns(base + [rule])), len(base))


class AsMuch(unittest.TestCase):
    def test_written_out(self):
        both = sketch_of(Note.of_keys("a", "b"))
        self.assertIs(answers_as_much(both, COIN), True)
        self.assertIs(answers_as_much(one=COIN, other=both), False)
        self.assertIs(answers_as_much(COIN, APART), False)
        self.assertEqual(unmatched_seeds(COIN, APART), ["s0", "s1"])
        self.assertEqual(unmatched_seeds(one=APART, other=COIN), ["s0", "s1"])
        self.assertEqual(unmatched_seeds(both, COIN), [])
        self.assertIs(answers_as_much(sketch_of([]), sketch_of([{}], [])), True)
        self.assertEqual(unmatched_seeds(sketch_of([]), sketch_of([{"a": 1}], [], [{"z": 2}])), ["s0", "s2"])

    def test_against_the_fact_of_the_document(self):
        for chance in cases(8, 150):
            keys = some_keys(chance, 3)
            one, other = some_sketch(chance, keys, 3, 2), some_sketch(chance, keys, 3, 2)
            def lines(note):
                return [[row.get(key, 0) for key in keys] for row in note.sums()]
            unmatched = [name for name, _, note in other.walk() if not any(
                all(in_span(lines(greater), line) for line in lines(note)) for _, _, greater in one.walk())]
            self.assertEqual(unmatched_seeds(one, other), unmatched)
            self.assertIs(answers_as_much(one, other), unmatched == [])

    def test_what_is_answered(self):
        # If not as much, some power of a sum of multiples of sums cannot be answered.
        for chance in cases(9, 60):
            keys = some_keys(chance, 2)
            one, other = some_sketch(chance, keys, 3, 2), some_sketch(chance, keys, 3, 2)
            base = [question for degree in range(4) for question in answer_base(other, degree)]
            self.assertEqual(answers_as_much(one, other), all(can_answer(one, question) for question in base))


class NearTheLimits(unittest.TestCase):
    def test_many_keys_and_seeds(self):
        for chance in cases(10, 8):
            keys = list("abcdef")
            notes = [[{key: chance.randint(-9, 9) for key in keys} for _ in range(2)] for _ in range(12)]
            question = some_question(chance, keys, 3, 40)
            sketch = sketch_of(*notes)
            rule = rule_for(sketch, question)
            self.assertEqual(rule is not None, can_answer(sketch, question))
            self.assertEqual(remainder(sketch, question) == NOTHING, rule is not None)

    def test_the_plain_ways_of_the_tests(self):
        self.assertEqual(times({("b",): 2}, {("a",): 3, (): 1}), {("a", "b"): 6, ("b",): 2})
        self.assertEqual((rank([[1, 2], [2, 4]]), in_span([[1, 2]], [3, 6]), in_span([], [0])), (1, True, True))


if __name__ == "__main__":
    unittest.main()
