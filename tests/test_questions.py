"""Questions: points 7 and 8."""

import unittest
from fractions import Fraction
from itertools import permutations

from made import asked, cases, fraction, some_keys, some_question, tables_up_to, times, value_of, weights_of
from notesums.errors import InvalidCount, InvalidKeys, InvalidName, InvalidNames, InvalidNumber, InvalidQuestion
from notesums.errors import InvalidTable, InvalidTerms
from notesums.notes import Note
from notesums.questions import Question
from notesums.ratios import Ratio
from notesums.tables import Table
from wrong import NAMES, NO_INTEGERS, NO_NAMES, Odd, refused

GREAT = 123456789012345678901234567890
NOTHING = Question()
A, B, C = (Question.of_key(key) for key in "abc")
NO_NUMBERS = NO_INTEGERS + [Table(), Table({"a": 1}), Note([])]
NO_TERMS = [
    None, True, 0, 1, "", "a", [], [1, ["a"]], (), (1,), (1, ["a"], 2), (["a"], 1), ("a", 1), (1, "a"), (1, "ab"),
    (1, None), (1, {"a"}), (1, {"a": 1}), (1, 1), (1, ["a", 1]), (1, ["a", "A"]), (1, ["a", ""]), (1, [["a"]]),
    (1, ["abcdefghi"]), (True, ["a"]), (False, []), (None, ["a"]), ("1", ["a"]), ([1], ["a"]), (Odd(), ["a"]),
    Ratio(1), A, Odd(), {1: ["a"]}, (A, ["a"]), (1, A), (1, ["a", True]), (1, ("a", None)),
]


class Making(unittest.TestCase):
    def test_nothing(self):
        for question in (Question(), Question([]), Question(()), Question(terms=()), Question([(0, ["a"])])):
            self.assertEqual(question, NOTHING)
            self.assertEqual(question.terms(), [])
            self.assertEqual(question.degree, -1)
            self.assertEqual(str(question), "0")
            self.assertEqual(repr(question), "Question([])")

    def test_terms_come_together(self):
        question = Question([(1, ["b", "a"]), (2, ("a", "b")), (Ratio(1, 2), ["b"]), (3, []), (Ratio(1, 2), ["b"])])
        self.assertEqual(question.terms(), [(Ratio(3), ()), (Ratio(1), ("b",)), (Ratio(3), ("a", "b"))])

    def test_terms_cancel(self):
        question = Question([(1, ["b", "a"]), (-1, ["a", "b"]), (Ratio(1, 3), ["a"]), (Ratio(-1, 3), ["a"])])
        self.assertEqual(question, NOTHING)
        self.assertEqual(Question([(0, ["a"]), (1, ["b"]), (Ratio(0), [])]), B)

    def test_keys_in_any_sequence(self):
        for some in permutations(["b", "a", "c", "a"]):
            self.assertEqual(Question([(2, list(some))]).terms(), [(Ratio(2), ("a", "a", "b", "c"))])

    def test_terms_in_any_sequence(self):
        terms = [(1, ["a"]), (Ratio(1, 2), ["b", "a"]), (3, ()), (-1, ["c", "c"])]
        for some in permutations(terms):
            self.assertEqual(Question(list(some)), Question(terms))
            self.assertEqual(Question(tuple(some)).terms(), Question(terms).terms())

    def test_order_of_products(self):
        terms = [(1, list(keys)) for keys in ("ab", "c", "", "b", "aaa", "aa", "bb", "a", "aab")]
        found = ["".join(keys) for _, keys in Question(terms).terms()]
        self.assertEqual(found, ["", "a", "b", "c", "aa", "ab", "bb", "aaa", "aab"])

    def test_order_of_keys_of_several_letters(self):
        terms = [(1, [key]) for key in ("b", "a1", "a", "ab", "a10", "a2")]
        self.assertEqual([keys[0] for _, keys in Question(terms).terms()], ["a", "a1", "a10", "a2", "ab", "b"])

    def test_great_numbers_and_fractions(self):
        question = Question([(GREAT, ["a"]), (Ratio(1, GREAT), ["b"]), (Ratio(-GREAT, 7), [])])
        self.assertEqual(question.terms(), [(Ratio(-GREAT, 7), ()), (Ratio(GREAT), ("a",)), (Ratio(1, GREAT), ("b",))])

    def test_the_passed_lists_may_be_changed_afterwards(self):
        keys, number = ["b", "a"], Ratio(1, 2)
        terms = [(number, keys), (1, ["c"])]
        question = Question(terms)
        self.assertEqual(terms, [(number, ["b", "a"]), (1, ["c"])])
        keys.append("z")
        terms.append((5, ["y"]))
        self.assertEqual(question, A * B * Ratio(1, 2) + C)

    def test_values_that_are_no_lists(self):
        for value in (None, True, 0, 1, "", "a", {}, {1: ["a"]}, {"a"}, Odd(), A, Ratio(1), Question):
            with self.assertRaises(InvalidTerms) as held:
                Question(value)
            self.assertIsNone(held.exception.position)

    def test_the_first_wrong_term(self):
        right = (1, ["a"])
        for wrong in NO_TERMS:
            for terms, position in (([wrong], 0), ([right, wrong], 1), ([right, right, wrong, None], 2),
                                    ((wrong, right), 0), ([wrong, wrong], 0)):
                with self.assertRaises(InvalidTerms) as held:
                    Question(terms=terms)
                self.assertEqual(held.exception.position, position, wrong)
                self.assertIs(type(held.exception), InvalidTerms)

    def test_of_key(self):
        for name in NAMES:
            self.assertEqual(Question.of_key(name).terms(), [(Ratio(1), (name,))])
            self.assertEqual(Question.of_key(key=name), Question([(1, [name])]))
        refused(self, InvalidName, NO_NAMES, Question.of_key)

    def test_constant(self):
        for number in (1, -1, GREAT, Ratio(2, 3), Ratio(-7)):
            self.assertEqual(Question.constant(number).terms(), [(Ratio(1) * number, ())])
            self.assertEqual(Question.constant(number=number).degree, 0)
        self.assertEqual(Question.constant(0), NOTHING)
        refused(self, InvalidNumber, NO_NUMBERS + [A, NOTHING], Question.constant)


class Asking(unittest.TestCase):
    def test_terms(self):
        question = asked({"ab": 2, "": Fraction(-1, 2)})
        terms = question.terms()
        self.assertEqual([type(number) for number, _ in terms], [Ratio, Ratio])
        self.assertEqual([type(keys) for _, keys in terms], [tuple, tuple])
        terms.pop()
        self.assertEqual(len(question.terms()), 2)

    def test_degree(self):
        cases_ = [({}, -1), ({"": 3}, 0), ({"a": 1, "": 1}, 1), ({"aa": 1, "b": 1}, 2), ({"abcdefgh": 1}, 8)]
        for weights, degree in cases_:
            self.assertEqual(asked(weights).degree, degree)
        self.assertEqual((A * A - A * A + B).degree, 1)
        with self.assertRaises(AttributeError):
            A.degree = 2

    def test_used_keys(self):
        question = asked({"cb": 1, "a": 2, "cc": 1, "": 1})
        self.assertEqual(question.used_keys(), ["a", "b", "c"])
        question.used_keys().append("d")
        self.assertEqual(question.used_keys(), ["a", "b", "c"])
        self.assertEqual(asked({"": 5}).used_keys(), [])
        self.assertEqual((A + B - A).used_keys(), ["b"])

    def test_weight(self):
        question = asked({"ab": Fraction(2, 3), "": -5})
        self.assertEqual(question.weight(("a", "b")), Ratio(2, 3))
        self.assertEqual(question.weight(product=("a", "b")), Ratio(2, 3))
        self.assertEqual(question.weight(()), Ratio(-5))
        for keys in (("a",), ("a", "a"), ("z",), ("a", "b", "b")):
            self.assertEqual(question.weight(keys), Ratio(0))
            self.assertIs(type(question.weight(keys)), Ratio)
        self.assertEqual(NOTHING.weight(()), Ratio(0))

    def test_weight_of_what_is_no_product(self):
        wrong = [["a"], [], "a", "", None, True, 0, 1, {"a"}, {}, ("b", "a"), ("a", "b", "a"), ("A",), ("",), (1,),
                 (True,), (None,), ("a", 1), (("a",),), (["a"],), Odd(), A, Table(), ("abcdefghi",)]
        for question in (NOTHING, A * B):
            refused(self, InvalidKeys, wrong, question.weight)

    def test_parts(self):
        question = asked({"ab": 2, "": 3, "a": 1, "cc": Fraction(1, 2)})
        parts = question.parts()
        self.assertEqual(list(parts), [0, 1, 2])
        self.assertEqual(parts, {0: Question.constant(3), 1: A, 2: asked({"ab": 2, "cc": Fraction(1, 2)})})
        parts[0] = A
        del parts[1]
        self.assertEqual(list(question.parts()), [0, 1, 2])
        self.assertEqual(NOTHING.parts(), {})
        self.assertEqual(asked({"aaa": 2}).parts(), {3: asked({"aaa": 2})})

    def test_parts_add_up(self):
        for chance in cases(1, 40):
            question = some_question(chance, some_keys(chance), 4, 8)
            total = NOTHING
            for degree, part in question.parts().items():
                self.assertEqual({len(keys) for _, keys in part.terms()}, {degree})
                total = total + part
            self.assertEqual(total, question)

    def test_at(self):
        question = asked({"ab": 2, "a": Fraction(-1, 2), "": 5})
        self.assertEqual(question.at(Table({"a": 3, "b": -2})), Ratio(-17, 2))
        self.assertEqual(question.at(table=Table()), Ratio(5))
        self.assertEqual(question.at(Table({"z": 9})), Ratio(5))
        self.assertEqual(NOTHING.at(Table({"a": 1})), Ratio(0))
        self.assertIs(type(A.at(Table({"a": 1}))), Ratio)
        self.assertEqual((A * A * B).at(Table({"a": GREAT, "b": -1})), Ratio(-GREAT * GREAT))

    def test_at_many_tables(self):
        for chance in cases(2, 60):
            keys = some_keys(chance, 3)
            question = some_question(chance, keys, 4)
            for table in tables_up_to(keys, 1, -2):
                self.assertEqual(fraction(question.at(table)), value_of(weights_of(question), table.counts()))

    def test_at_what_is_no_table(self):
        wrong = [None, True, 0, "a", {}, {"a": 1}, [], (), Odd(), Table, A, Ratio(1), Note([])]
        for question in (NOTHING, A):
            refused(self, InvalidTable, wrong, question.at)
            refused(self, InvalidTable, wrong, question.moved)

    def test_queries_that_are_repeated(self):
        question = asked({"ab": 2, "": 3})
        for _ in range(2):
            self.assertEqual(question.terms(), [(Ratio(3), ()), (Ratio(2), ("a", "b"))])
            self.assertEqual(question.used_keys(), ["a", "b"])
            self.assertEqual(question.at(Table({"a": 1, "b": 1})), Ratio(5))
            self.assertEqual(str(question), "2*a*b + 3")


class Working(unittest.TestCase):
    def test_against_multiplying_out(self):
        for chance in cases(3, 60):
            keys = some_keys(chance, 3)
            one, other = some_question(chance, keys), some_question(chance, keys)
            left, right = weights_of(one), weights_of(other)
            together = {keys: left.get(keys, 0) + right.get(keys, 0) for keys in {*left, *right}}
            apart = {keys: left.get(keys, 0) - right.get(keys, 0) for keys in {*left, *right}}
            self.assertEqual(weights_of(one + other), {k: v for k, v in together.items() if v})
            self.assertEqual(weights_of(one - other), {k: v for k, v in apart.items() if v})
            self.assertEqual(weights_of(one * other), times(left, right))
            self.assertEqual(weights_of(-one), {keys: -number for keys, number in left.items()})
            self.assertEqual((weights_of(one), weights_of(other)), (left, right))

    def test_numbers_on_the_right(self):
        self.assertEqual((A + 1).terms(), [(Ratio(1), ()), (Ratio(1), ("a",))])
        self.assertEqual(A - Ratio(1, 2), asked({"a": 1, "": Fraction(-1, 2)}))
        self.assertEqual(A * 3, asked({"a": 3}))
        self.assertEqual((A + B) * Ratio(1, 2), asked({"a": Fraction(1, 2), "b": Fraction(1, 2)}))
        self.assertEqual(A * 0, NOTHING)
        self.assertEqual(A + 0, A)
        self.assertEqual(A - A, NOTHING)
        self.assertEqual(NOTHING + Ratio(1, 3), Question.constant(Ratio(1, 3)))

    def test_what_is_no_question_on_the_right(self):
        for left in (NOTHING, A):
            refused(self, InvalidQuestion, NO_NUMBERS, lambda value: left + value)
            refused(self, InvalidQuestion, NO_NUMBERS, lambda value: left - value)
            refused(self, InvalidQuestion, NO_NUMBERS, lambda value: left * value)

    def test_power(self):
        self.assertEqual((A + B).power(2), asked({"aa": 1, "ab": 2, "bb": 1}))
        self.assertEqual((A - B).power(3), asked({"aaa": 1, "aab": -3, "abb": 3, "bbb": -1}))
        self.assertEqual((A + 1).power(many=1), A + 1)
        self.assertEqual((A * Ratio(1, 2)).power(8), asked({"a" * 8: Fraction(1, 256)}))
        for chance in cases(4, 20):
            question, product = some_question(chance, ["a", "b"], 1, 3), Question.constant(1)
            for many in range(7):
                self.assertEqual(question.power(many), product)
                product = product * question

    def test_power_0(self):
        for question in (NOTHING, A, Question.constant(5), A * B + 1):
            self.assertEqual(question.power(0), Question.constant(1))
        self.assertEqual(NOTHING.power(1), NOTHING)
        self.assertEqual(NOTHING.power(5), NOTHING)

    def test_power_that_is_no_count(self):
        wrong = NO_INTEGERS + [-1, -GREAT, Ratio(2), Ratio(1), A]
        for question in (NOTHING, A):
            refused(self, InvalidCount, wrong, question.power)


class Moving(unittest.TestCase):
    def test_written_out(self):
        square = asked({"ab": 2, "aa": 1})
        self.assertEqual(str(square.moved(Table({"b": 1}))), "2*a*b + a*a + 2*a")
        self.assertEqual(square.moved(table=Table({"a": -1})), asked({"ab": 2, "b": -2, "aa": 1, "a": -2, "": 1}))

    def test_values(self):
        for chance in cases(5, 40):
            keys = some_keys(chance, 2)
            question = some_question(chance, keys)
            for moved in tables_up_to(["a", "z"], 1, -1):
                found = question.moved(moved)
                for table in tables_up_to(keys, 1, -1):
                    self.assertEqual(found.at(table), question.at(table + moved))
                self.assertEqual(found.moved(-moved), question)
                self.assertTrue({*found.used_keys()} <= {*question.used_keys()})

    def test_other_keys_and_the_empty_table(self):
        question = A * B + 1
        self.assertEqual(question.moved(Table({"z": 5})), question)
        self.assertEqual(question.moved(Table()), question)
        self.assertEqual(NOTHING.moved(Table({"a": 5})), NOTHING)


class Putting(unittest.TestCase):
    def test_all_at_once(self):
        question = asked({"aab": 2, "b": 1})
        self.assertEqual(question.put({"a": B, "b": A}), asked({"abb": 2, "a": 1}))
        self.assertEqual(question.put(questions={"a": B}), asked({"bbb": 2, "b": 1}))
        self.assertEqual((A + B + C).put({"a": B, "b": C, "c": A}), A + B + C)
        self.assertEqual((A * B).put({"a": A + B, "b": A - B}), asked({"aa": 1, "bb": -1}))

    def test_numbers(self):
        question = asked({"ab": 6, "a": 1})
        self.assertEqual(question.put({"b": Ratio(1, 4)}), asked({"a": Fraction(5, 2)}))
        self.assertEqual(question.put({"a": 0}), NOTHING)
        self.assertEqual(question.put({"a": 2, "b": -1}), Question.constant(-10))

    def test_keys_that_the_question_lacks(self):
        self.assertEqual(A.put({"z": B * B}), A)
        self.assertEqual(A.put({}), A)
        self.assertEqual(NOTHING.put({"a": B}), NOTHING)
        self.assertEqual(Question.constant(2).put({"a": B}), Question.constant(2))

    def test_nothing_is_put(self):
        self.assertEqual((A * B + A + 1).put({"b": NOTHING}), A + 1)

    def test_against_multiplying_out(self):
        for chance in cases(6, 60):
            keys = some_keys(chance, 3)
            question = some_question(chance, keys)
            put = {key: some_question(chance, ["a", "b", "z"], 2, 3) for key in chance.sample(keys + ["y"], 2)}
            expected = {}
            for keys, number in weights_of(question).items():
                whole = {(): number}
                for key in keys:
                    whole = times(whole, weights_of(put.get(key, Question.of_key(key))))
                for product, weight in whole.items():
                    expected[product] = expected.get(product, 0) + weight
            found = question.put(put)
            self.assertEqual(weights_of(found), {k: v for k, v in expected.items() if v})

    def test_the_passed_dict(self):
        put = {"b": A, "a": 3}
        (A * B).put(put)
        self.assertEqual(list(put.items()), [("b", A), ("a", 3)])
        for some in permutations(put.items()):
            self.assertEqual((A * B).put(dict(some)), asked({"a": 3}))

    def test_wrong_values(self):
        wrong = [None, True, 0, 1, "a", [], [("a", A)], (), {"a"}, Odd(), A, Ratio(1), Table()]
        wrong += [{name: A} for name in NO_NAMES if not isinstance(name, (list, dict, set))]
        wrong += [{"a": value} for value in NO_NUMBERS] + [{"z": None}, {"a": A, "z": "b"}]
        for question in (NOTHING, A):
            refused(self, InvalidQuestion, wrong, question.put)


class Renaming(unittest.TestCase):
    def test_keys_become_one(self):
        question = asked({"ab": 2, "aa": 1, "c": -1, "b": 1})
        self.assertEqual(question.renamed({"b": "a"}), asked({"aa": 3, "c": -1, "a": 1}))
        self.assertEqual(question.renamed({"b": "c"}), asked({"ac": 2, "aa": 1}))
        self.assertEqual(question.renamed(names={"a": "b", "b": "a"}), asked({"ab": 2, "bb": 1, "c": -1, "a": 1}))

    def test_the_product_is_sorted_again(self):
        self.assertEqual((A * B).renamed({"a": "c"}).terms(), [(Ratio(1), ("b", "c"))])

    def test_all_at_once_and_other_keys(self):
        self.assertEqual(A.renamed({"a": "b", "b": "c"}), B)
        self.assertEqual(A.renamed({"z": "a"}), A)
        self.assertEqual(A.renamed({}), A)
        self.assertEqual((A - B).renamed({"a": "b"}), NOTHING)

    def test_wrong_names(self):
        wrong = [None, True, 0, "a", [], [("a", "b")], ("a", "b"), {"a"}, Odd(), Table({"a": 1}), {"a": A}]
        wrong += [{name: "a"} for name in NO_NAMES if not isinstance(name, (list, dict, set))]
        wrong += [{"a": name} for name in NO_NAMES] + [{"a": "b", "z": 1}]
        for question in (NOTHING, A):
            refused(self, InvalidNames, wrong, question.renamed)


class Texts(unittest.TestCase):
    def test_the_text(self):
        texts = [
            ({"aa": 2, "b": Fraction(-1, 2), "": 3}, "2*a*a - 1/2*b + 3"), ({}, "0"), ({"": 1}, "1"),
            ({"": -1}, "-1"), ({"": Fraction(-3, 2)}, "-3/2"), ({"a": 1}, "a"), ({"a": -1}, "-a"),
            ({"a": -2}, "-2*a"), ({"a": 1, "b": 1}, "b + a"), ({"a": -1, "b": -1}, "-b - a"),
            ({"a": 1, "b": -1, "": -1}, "-b + a - 1"), ({"ab": 1, "aa": 1, "bb": 1}, "b*b + a*b + a*a"),
            ({"a": Fraction(1, 3), "": 1}, "1/3*a + 1"), ({"a": 1, "": Fraction(1, 2)}, "a + 1/2"),
            ({"aaa": 1, "zz": -1, "a": GREAT}, f"a*a*a - z*z + {GREAT}*a"), ({"": GREAT}, str(GREAT)),
            ({"a": Fraction(-5, 7), "bc": Fraction(-1, 7)}, "-1/7*b*c - 5/7*a"),
        ]
        for weights, text in texts:
            self.assertEqual(str(asked(weights)), text)
        self.assertEqual(str(Question([(2, ["ab", "a1", "b"])])), "2*a1*ab*b")

    def test_repr(self):
        question = asked({"aa": 1, "": Fraction(-1, 2), "b": 2})
        self.assertEqual(repr(question), "Question([(Ratio(-1, 2), ()), (Ratio(2, 1), ('b',)), (Ratio(1, 1), ('a', 'a'))])")
        self.assertEqual(repr(NOTHING), "Question([])")


class Equality(unittest.TestCase):
    def test_equal(self):
        self.assertTrue(A * B == B * A)
        self.assertFalse(A * B != B * A)
        self.assertTrue((A + B) * Ratio(2, 4) + A * 0 == asked({"a": Fraction(1, 2), "b": Fraction(1, 2)}))
        self.assertTrue(A * 2 * Ratio(1, 2) == A)

    def test_not_equal(self):
        for other in (NOTHING, B, A * 2, -A, A + 1, A * A, A * Ratio(1, 2), A + B):
            self.assertFalse(A == other)
            self.assertTrue(A != other)

    def test_not_equal_to_values_of_another_kind(self):
        for other in (None, True, 0, 1, "a", "0", [], (), {}, Ratio(1), Table({"a": 1}), Odd(), A.terms()):
            for question in (A, NOTHING, Question.constant(1)):
                self.assertFalse(question == other)
                self.assertTrue(question != other)

    def test_equal_exactly_if_the_values_are(self):
        # At the plain tables whose numbers have at most the greatest degree as a sum.
        for chance in cases(7, 100):
            one, other = (some_question(chance, ["a", "b"], 2, 2) for _ in range(2))
            most = max(one.degree, other.degree, 0)
            tables = [t for t in tables_up_to(["a", "b"], most) if sum(t.counts().values()) <= most]
            self.assertEqual(one == other, all(one.at(table) == other.at(table) for table in tables))


class Listed(unittest.TestCase):
    def test_each_method_is_defined_in_the_class(self):
        names = [
            "__init__", "of_key", "constant", "terms", "degree", "used_keys", "weight", "parts", "__add__", "__sub__",
            "__mul__", "__neg__", "power", "at", "moved", "put", "renamed", "__str__", "__repr__", "__eq__",
        ]
        for name in names:
            self.assertIn(name, vars(Question))
        self.assertIsInstance(vars(Question)["degree"], property)
        self.assertIsInstance(vars(Question)["of_key"], classmethod)
        self.assertIsInstance(vars(Question)["constant"], classmethod)
        self.assertEqual(Question.__module__, "notesums.questions")

    def test_the_example_of_the_document(self):
        a, b = Question.of_key("a"), Question.of_key("b")
        square = (a + b).power(2) - b * b
        found = [str(square), square.degree, str(square.at(Table({"a": 2, "b": 3})))]
        self.assertEqual(found, ["2*a*b + a*a", 2, "16"])
        self.assertEqual(str(square.moved(Table({"b": 1}))), "2*a*b + a*a + 2*a")


if __name__ == "__main__":
    unittest.main()
