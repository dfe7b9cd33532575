"""Notes: point 9, and what point 22 says of plain notes."""

import unittest
from fractions import Fraction

from made import asked, cases, in_span, some_keys, some_note, weights_of
from notesums.errors import InvalidName, InvalidNames, InvalidQuestion, InvalidSum, InvalidTable
from notesums.notes import Note
from notesums.questions import Question
from notesums.ratios import Ratio
from notesums.tables import Table
from wrong import NO_INTEGERS, NO_NAMES, Odd, position_of, refused, too_many

GREAT = 123456789012345678901234567890
EMPTY = Note([])
NO_LISTS = [None, True, False, 0, 1, "", "a", {}, {"a": 1}, {1}, Odd(), Table(), EMPTY, Ratio(1)]
KEYS_OF_DICTS = [name for name in NO_NAMES if not isinstance(name, (list, dict, set))]
NO_SUMS = [None, True, 0, "a", [], ["a"], (), ("a", 1), {"a"}, Odd(), Table({"a": 1}), Question.of_key("a"), Ratio(1)]
NO_SUMS += [{name: 1} for name in KEYS_OF_DICTS] + [{"a": number} for number in NO_INTEGERS + [Ratio(1)]]
NO_SUMS += [{"a": 1, "b": True}, {"a": 1, "": 0}]


class Making(unittest.TestCase):
    def test_sums(self):
        note = Note([{"b": 2, "a": -1, "c": 0}, {}, {"a": 0}, {"z": GREAT}])
        self.assertEqual(note.sums(), [{"a": -1, "b": 2}, {}, {}, {"z": GREAT}])
        self.assertEqual(list(note.sums()[0]), ["a", "b"])
        self.assertEqual(note, Note(sums=({"a": -1, "b": 2}, {}, {}, {"z": GREAT})))
        self.assertEqual(len(note), 4)

    def test_the_empty_note(self):
        for note in (EMPTY, Note(()), Note.of_keys()):
            self.assertEqual(note.sums(), [])
            self.assertEqual(note.used_keys(), [])
            self.assertEqual(note.shows(Table({"a": 1})), ())
            self.assertEqual(note.questions(), [])
            self.assertEqual(note.rows(), [])
            self.assertEqual(len(note), 0)
            self.assertIs(note.is_plain, True)
            self.assertEqual(repr(note), "Note([])")

    def test_of_keys(self):
        self.assertEqual(Note.of_keys("b", "a", "b").sums(), [{"b": 1}, {"a": 1}, {"b": 1}])
        for wrong in NO_NAMES:
            refused(self, InvalidName, [wrong], Note.of_keys)
            with self.assertRaises(InvalidName) as held:
                Note.of_keys("a", wrong, "A")
            self.assertIs(held.exception.value, wrong)
        with self.assertRaises(InvalidName):
            Note.of_keys(*"abcdefghi", "A")

    def test_what_is_passed_and_returned_may_be_changed(self):
        row = {"b": 1, "a": 2}
        sums = [row]
        note = Note(sums)
        self.assertEqual((list(row.items()), sums), ([("b", 1), ("a", 2)], [row]))
        row["a"] = 9
        sums.append({})
        self.assertEqual(note.sums(), [{"a": 2, "b": 1}])
        found = note.sums()
        found[0]["a"] = 7
        found.append({})
        note.questions().append(1)
        note.rows().append(1)
        note.used_keys().append("z")
        self.assertEqual(note.sums(), [{"a": 2, "b": 1}])
        self.assertEqual((note.used_keys(), len(note.questions()), len(note.rows())), (["a", "b"], 1, 1))

    def test_what_is_no_list(self):
        for value in NO_LISTS:
            self.assertIsNone(position_of(self, InvalidSum, lambda: Note(value)))

    def test_the_first_wrong_sum(self):
        for wrong in NO_SUMS:
            self.assertEqual(position_of(self, InvalidSum, lambda: Note([wrong])), 0)
            self.assertEqual(position_of(self, InvalidSum, lambda: Note(sums=({"a": 1}, {}, wrong, None))), 2)

    def test_eight_and_nine_sums(self):
        self.assertEqual(len(Note([{"a": 1}] * 8)), 8)
        too_many(self, "sums", 8, lambda: Note([{"a": 1}] * 9))
        too_many(self, "sums", 8, lambda: Note([{}] * 20))
        too_many(self, "sums", 8, lambda: Note.of_keys(*"abcdefghi"))
        self.assertEqual(position_of(self, InvalidSum, lambda: Note([{}] * 9 + [None])), 9)

    def test_many_keys(self):
        keys = [f"k{at}" for at in range(20)]
        self.assertEqual(Note([{key: 1 for key in keys}]).used_keys(), sorted(keys))


class Asking(unittest.TestCase):
    def test_used_keys(self):
        self.assertEqual(Note([{"c": 1, "a": 0}, {"b": -1}, {"c": 2}]).used_keys(), ["b", "c"])

    def test_shows(self):
        note = Note([{"a": 1, "b": 2}, {}, {"b": -1}, {"a": 1, "b": 2}])
        self.assertEqual(note.shows(Table({"a": 3, "b": -1, "z": 8})), (1, 0, 1, 1))
        self.assertEqual(note.shows(table=Table()), (0, 0, 0, 0))
        self.assertIs(type(note.shows(Table())), tuple)
        self.assertEqual({type(number) for number in note.shows(Table())}, {int})
        for wrong in (None, True, 0, {}, {"a": 1}, [], (), "a", Odd(), Table, note):
            refused(self, InvalidTable, [wrong], note.shows)
            refused(self, InvalidTable, [wrong], EMPTY.shows)

    def test_questions(self):
        note = Note([{"b": 2, "a": -1}, {"a": 0}])
        self.assertEqual(note.questions(), [asked({"a": -1, "b": 2}), Question()])

    def test_shown_are_the_values_of_the_questions(self):
        for chance in cases(1, 40):
            keys = some_keys(chance)
            note = some_note(chance, keys, 4)
            table = Table({key: chance.randint(-5, 5) for key in keys})
            self.assertEqual([Ratio(n) for n in note.shows(table)], [q.at(table) for q in note.questions()])

    def test_is_plain(self):
        plain = [[{"a": 1}], [{"a": 1, "b": 1}, {"c": 1}], [{"a": 0, "b": 1}, {"a": 1}], [{}, {}], [{"a": -1 + 1}]]
        other = [[{"a": 2}], [{"a": -1}], [{"a": 1}, {"a": 1}], [{"a": 1, "b": 1}, {"c": 1, "b": 1}], [{"a": 1}, {"b": 3}]]
        for sums in plain:
            self.assertIs(Note(sums).is_plain, True, sums)
        for sums in other:
            self.assertIs(Note(sums).is_plain, False, sums)
        with self.assertRaises(AttributeError):
            EMPTY.is_plain = False

    def test_repr(self):
        self.assertEqual(repr(Note([{"b": 1, "a": -2, "c": 0}, {}])), "Note([{'a': -2, 'b': 1}, {}])")

    def test_queries_that_are_repeated(self):
        note = Note([{"a": 2, "b": 4}])
        for _ in range(2):
            self.assertEqual(note.rows(), [asked({"a": 1, "b": 2})])
            self.assertEqual(note.shows(Table({"a": 1})), (2,))


class Rows(unittest.TestCase):
    def test_written_out(self):
        half = Fraction(1, 2)
        found = [
            ([{"a": 2, "b": 1}], [{"a": 1, "b": half}]),
            ([{"a": 1, "b": 1}, {"a": 1, "b": -1}], [{"a": 1}, {"b": 1}]),
            ([{"b": -3}, {"b": 6}], [{"b": 1}]),
            ([{"a": 1, "b": 1, "c": 1}, {"a": 1, "b": 1}], [{"a": 1, "b": 1}, {"c": 1}]),
            ([{"c": 1, "a": 2}, {"b": 2, "c": 2}], [{"a": 1, "c": half}, {"b": 1, "c": 1}]),
            ([{"b": 1}, {"a": 1, "b": 2}], [{"a": 1}, {"b": 1}]),
            ([{}, {"a": 0}], []),
            ([{"a": GREAT, "b": 1}, {"a": -GREAT, "b": -1}], [{"a": 1, "b": Fraction(1, GREAT)}]),
        ]
        for sums, rows in found:
            self.assertEqual(Note(sums).rows(), [asked(row) for row in rows])
            self.assertEqual(Note(sums[::-1]).rows(), [asked(row) for row in rows])

    def test_the_form(self):
        for chance in cases(2, 150):
            keys = some_keys(chance, 5)
            note = some_note(chance, keys, 5, 3)
            rows = [weights_of(row) for row in note.rows()]
            firsts = [min(row) for row in rows]
            self.assertEqual(firsts, sorted(set(firsts)))
            for row, first in zip(rows, firsts):
                self.assertEqual(row[first], 1)
                self.assertEqual([other for other in rows if first in other], [row])
                self.assertEqual({len(keys) for keys in row}, {1})
            sums = [[Fraction(row.get(key, 0)) for key in keys] for row in note.sums()]
            lines = [[row.get((key,), Fraction(0)) for key in keys] for row in rows]
            self.assertTrue(all(in_span(sums, line) for line in lines))
            self.assertTrue(all(in_span(lines, line) for line in sums))


class Having(unittest.TestCase):
    def test_written_out(self):
        note = Note([{"a": 1, "b": 1}, {"c": 2}])
        for weights in ({}, {"a": 1, "b": 1}, {"c": 1}, {"a": -2, "b": -2, "c": Fraction(1, 3)}):
            self.assertIs(note.has(asked(weights)), True)
            self.assertIs(note.has(question=asked(weights)), True)
        for weights in ({"a": 1}, {"b": 1}, {"a": 1, "b": -1}, {"z": 1}, {"c": 1, "z": 1}, {"a": 1, "b": 1, "z": 1}):
            self.assertIs(note.has(asked(weights)), False)

    def test_the_empty_note(self):
        self.assertIs(EMPTY.has(Question()), True)
        self.assertIs(EMPTY.has(Question.of_key("a")), False)
        self.assertIs(Note([{}]).has(Question.of_key("a")), False)

    def test_many(self):
        for chance in cases(3, 150):
            keys = some_keys(chance, 4)
            note = some_note(chance, keys)
            weights = {key: Fraction(chance.randint(-2, 2), chance.randint(1, 2)) for key in keys}
            if chance.random() < 0.5:
                many = [chance.randint(-2, 2) for _ in note.sums()]
                weights = {k: Fraction(sum(n * row.get(k, 0) for n, row in zip(many, note.sums())), 3) for k in keys}
            sums = [[row.get(key, 0) for key in keys] for row in note.sums()]
            self.assertIs(note.has(asked(weights)), in_span(sums, list(weights.values())))

    def test_wrong_values(self):
        a = Question.of_key("a")
        wrong = [None, True, 0, "a", [], {}, {"a": 1}, Odd(), Ratio(1), Table({"a": 1}), EMPTY, Note.of_keys("a")]
        wrong += [Question.constant(1), a + 1, a * a, a * a + a, a * Question.of_key("b"), a.power(3)]
        for note in (EMPTY, Note.of_keys("a", "b")):
            refused(self, InvalidQuestion, wrong, note.has)


class Working(unittest.TestCase):
    def test_worth_the_same(self):
        same = [
            ([{"a": 1, "b": 1}, {"a": 1, "b": -1}], [{"b": 3}, {"a": -1}, {"a": 2, "b": 5}]),
            ([], [{}]), ([{"a": 2, "b": 2}], [{"a": -1, "b": -1}, {}]), ([{"a": 1}], [{"a": 1}]),
        ]
        other = [([{"a": 1}], [{"b": 1}]), ([{"a": 1}], []), ([{"a": 1, "b": 1}], [{"a": 1}, {"b": 1}]),
                 ([{"a": 1, "b": 1}], [{"a": 1, "b": 2}])]
        for one, two in same:
            self.assertIs(Note(one).worth_the_same(Note(two)), True)
            self.assertIs(Note(two).worth_the_same(other=Note(one)), True)
        for one, two in other:
            self.assertIs(Note(one).worth_the_same(Note(two)), False)
            self.assertIs(Note(two).worth_the_same(Note(one)), False)

    def test_plus(self):
        one, other = Note([{"a": 1}, {"b": 1}]), Note([{"a": 1}])
        self.assertEqual((one + other).sums(), [{"a": 1}, {"b": 1}, {"a": 1}])
        self.assertEqual((one + EMPTY, EMPTY + one), (one, one))
        self.assertEqual((len(one), len(other)), (2, 1))
        five = Note([{"a": 1}] * 5)
        self.assertEqual(len(five + Note([{}] * 3)), 8)
        too_many(self, "sums", 8, lambda: five + Note([{}] * 4))

    def test_through(self):
        note = Note([{"a": 1, "b": 1}, {"b": 1, "c": -1}])
        self.assertEqual(note.through([(1, -1), (0, 0), (2, 3)]).sums(),
                         [{"a": 1, "c": 1}, {}, {"a": 2, "b": 5, "c": -3}])
        self.assertEqual(note.through(rows=((1, 0),)), Note([{"a": 1, "b": 1}]))
        self.assertEqual(note.through([]), EMPTY)
        self.assertEqual(EMPTY.through([(), ()]).sums(), [{}, {}])
        self.assertEqual(note.sums(), [{"a": 1, "b": 1}, {"b": 1, "c": -1}])

    def test_through_shows_the_multiples(self):
        for chance in cases(4, 40):
            keys = some_keys(chance)
            note = some_note(chance, keys, 4)
            rows = [tuple(chance.randint(-3, 3) for _ in note.sums()) for _ in range(chance.randint(0, 5))]
            table = Table({key: chance.randint(-5, 5) for key in keys})
            shown = note.shows(table)
            expected = tuple(sum(many * number for many, number in zip(row, shown)) for row in rows)
            self.assertEqual(note.through(rows).shows(table), expected)

    def test_through_wrong_rows(self):
        note = Note.of_keys("a", "b")
        for value in NO_LISTS:
            self.assertIsNone(position_of(self, InvalidSum, lambda: note.through(value)))
        wrong = [None, (), (1,), (1, 2, 3), [1, 2], "ab", {1, 2}, {"a": 1, "b": 2}, 2, Odd(), EMPTY, Table()]
        wrong += [(1, number) for number in NO_INTEGERS + [Ratio(1)]] + [(number, 1) for number in NO_INTEGERS]
        for row in wrong:
            self.assertEqual(position_of(self, InvalidSum, lambda: note.through([row])), 0, row)
            self.assertEqual(position_of(self, InvalidSum, lambda: note.through([(1, 2), row, None])), 1, row)
        self.assertEqual(position_of(self, InvalidSum, lambda: EMPTY.through([(), (1,)])), 1)
        self.assertEqual(position_of(self, InvalidSum, lambda: EMPTY.through([[]])), 0)

    def test_through_eight_and_nine(self):
        note = Note.of_keys("a")
        self.assertEqual(len(note.through([(1,)] * 8)), 8)
        too_many(self, "sums", 8, lambda: note.through([(1,)] * 9))
        too_many(self, "sums", 8, lambda: EMPTY.through([()] * 9))
        self.assertEqual(position_of(self, InvalidSum, lambda: note.through([(1,)] * 9 + [(1, 2)])), 9)

    def test_renamed(self):
        note = Note([{"a": 1, "b": -1, "c": 2}, {"b": 1}])
        self.assertEqual(note.renamed({"a": "b"}).sums(), [{"c": 2}, {"b": 1}])
        self.assertEqual(note.renamed(names={"c": "b", "z": "y"}).sums(), [{"a": 1, "b": 1}, {"b": 1}])
        self.assertEqual(note.renamed({"a": "b", "b": "a"}).sums(), [{"a": -1, "b": 1, "c": 2}, {"a": 1}])
        self.assertEqual(note.renamed({}), note)
        self.assertEqual(list(note.renamed({"a": "z"}).sums()[0]), ["b", "c", "z"])
        self.assertEqual(EMPTY.renamed({"a": "b"}), EMPTY)

    def test_renamed_with_wrong_names(self):
        wrong = [None, True, 0, "a", [], [("a", "b")], {"a"}, Odd(), {"a": 1}, {"a": "A"}, {"a": "b", "": "c"}]
        wrong += [{name: "a"} for name in KEYS_OF_DICTS] + [{"z": name} for name in NO_NAMES]
        for note in (EMPTY, Note.of_keys("a")):
            refused(self, InvalidNames, wrong, note.renamed)


class Equality(unittest.TestCase):
    def test_equal(self):
        self.assertTrue(Note([{"a": 1, "b": 0}]) == Note([{"a": 1}]))
        self.assertTrue(Note([{"a": 1, "b": 2}]) == Note([{"b": 2, "a": 1}]))
        self.assertFalse(Note([{"a": 1}]) != Note([{"a": 1}]))

    def test_not_equal(self):
        note = Note([{"a": 1}, {"b": 1}])
        for other in (EMPTY, Note([{"b": 1}, {"a": 1}]), Note([{"a": 1}]), Note([{"a": 1}, {"b": 1}, {}]),
                      Note([{"a": 1}, {"b": 2}])):
            self.assertFalse(note == other)
            self.assertTrue(note != other)

    def test_values_of_another_kind(self):
        for other in (None, [], (), [{"a": 1}], {}, 0, "Note([])", Odd(), Table(), Question()):
            self.assertFalse(EMPTY == other)
            self.assertFalse(Note([{"a": 1}]) == other)


class Listed(unittest.TestCase):
    def test_each_method_is_defined_in_the_class(self):
        names = [
            "__init__", "of_keys", "sums", "used_keys", "shows", "questions", "rows", "has", "worth_the_same", "__add__",
            "through", "renamed", "is_plain", "__len__", "__repr__", "__eq__",
        ]
        for name in names:
            self.assertIn(name, vars(Note))
        self.assertIsInstance(vars(Note)["is_plain"], property)
        self.assertIsInstance(vars(Note)["of_keys"], classmethod)
        self.assertEqual(Note.__module__, "notesums.notes")


if __name__ == "__main__":
    unittest.main()
