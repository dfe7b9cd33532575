"""All examples of the document, as it writes them."""

import doctest
import unittest

EXAMPLES = r"""
>>> from notesums.questions import Question
>>> from notesums.tables import Table
>>> a, b = Question.of_key("a"), Question.of_key("b")
>>> square = (a + b).power(2) - b * b
>>> [str(square), square.degree, str(square.at(Table({"a": 2, "b": 3})))]
['2*a*b + a*a', 2, '16']
>>> str(square.moved(Table({"b": 1})))
'2*a*b + a*a + 2*a'

>>> from notesums.makers import buckets, signs
>>> [(name, str(weight), note.sums()) for name, weight, note in signs(["b", "a"]).walk()]
[('s0', '1/2', [{'a': 1, 'b': 1}]), ('s1', '1/2', [{'a': 1, 'b': -1}])]
>>> [(str(weight), note.sums()) for name, weight, note in buckets(["a", "b"], 3).walk()]
[('1/3', [{'a': 1, 'b': 1}]), ('2/3', [{'a': 1}, {'b': 1}])]

>>> from notesums.answers import can_answer, remainder, rule_for
>>> from notesums.makers import signs
>>> from notesums.questions import Question
>>> from notesums.rules import mean_of
>>> a, b, sketch = Question.of_key("a"), Question.of_key("b"), signs(["a", "b"])
>>> [can_answer(sketch, a * b), can_answer(sketch, a * a), str(remainder(sketch, a * a))]
[True, False, '-b*b']
>>> mean_of(sketch, rule_for(sketch, a * b)) == a * b
True

>>> from notesums.boxes import box_rule
>>> from notesums.makers import sample
>>> from notesums.questions import Question
>>> from notesums.twins import exact_twins, failing_size
>>> both = Question.of_key("a") * Question.of_key("b")
>>> [failing_size(sample(["a", "b"], 1), both, limit=3), box_rule(sample(["a", "b"], 1), both, {"a": 1}) is None]
[1, False]
>>> one, other = exact_twins(sample(["a", "b"], 1), both, box={"a": 1, "b": 1})
>>> sorted([len(one), len(other)])
[2, 2]

>>> from notesums.copies import least_copies
>>> from notesums.makers import sample, signs
>>> from notesums.questions import Question
>>> a, b = Question.of_key("a"), Question.of_key("b")
>>> one, two = sample(["a", "b"], 1), signs(["a", "b"])
>>> [least_copies(one, a * b), least_copies(two, a * a), least_copies(sample(["a"], 1), b)]
[2, 2, None]

>>> from notesums.best import least_spread
>>> from notesums.makers import sample
>>> from notesums.questions import Question
>>> from notesums.tables import Table
>>> total = Question.of_key("a") + Question.of_key("b")
>>> value, rule = least_spread(sample(["a", "b"], 1), total, [(Table({"a": 1}), 1), (Table({"b": 1}), 1)], 1)
>>> str(value)
'2'

>>> from notesums.makers import signs
>>> from notesums.texts import sketch_text
>>> sketch_text(signs(["a", "b"]))
'seed s0 1/2 [{a: 1, b: 1}]\nseed s1 1/2 [{a: 1, b: -1}]\n'
"""

# The example of the overview: a coin is tossed, with heads a + b is kept, with tails a - b; or a, and b.
OVERVIEW = r"""
>>> from notesums.answers import can_answer, rule_for
>>> from notesums.copies import least_copies
>>> from notesums.makers import weighted
>>> from notesums.notes import Note
>>> from notesums.questions import Question
>>> from notesums.ratios import Ratio
>>> from notesums.rules import Rule, is_rule
>>> from notesums.tables import Table
>>> from notesums.twins import is_twins
>>> half, product = Ratio(1, 2), Question.of_key("a") * Question.of_key("b")
>>> coin = weighted(Note([{"a": 1, "b": 1}]), Note([{"a": 1, "b": -1}]), heads=half, tails=half)
>>> square = Question.of_key("p0") * Question.of_key("p0") * half
>>> is_rule(coin, product, Rule({"heads": square, "tails": -square}))
True
>>> apart = weighted(Note.of_keys("a"), Note.of_keys("b"), heads=half, tails=half)
>>> one = [(Table({"a": 1, "b": 1}), 1), (Table(), 1)]
>>> other = [(Table({"a": 1}), 1), (Table({"b": 1}), 1)]
>>> [is_twins(apart, product, (one, other)), can_answer(apart, product), least_copies(apart, product)]
[True, False, 2]
"""


class Document(unittest.TestCase):
    def run_examples(self, text, least):
        parser = doctest.DocTestParser()
        runner = doctest.DocTestRunner(verbose=False)
        test = parser.get_doctest(text, {}, "document", None, 0)
        runner.run(test)
        self.assertEqual(runner.failures, 0)
        self.assertGreaterEqual(runner.tries, least)

    def test_examples(self):
        self.run_examples(EXAMPLES, 35)

    def test_overview(self):
        self.run_examples(OVERVIEW, 15)


if __name__ == "__main__":
    unittest.main()
