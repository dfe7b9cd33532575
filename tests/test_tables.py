"""Tables: points 2 and 6."""

import unittest
from itertools import permutations

from notesums.errors import InvalidName, InvalidNames, InvalidNumber, InvalidTable
from notesums.ratios import Ratio
from notesums.tables import Table, maps_to_integers
from wrong import NAMES, NO_INTEGERS, NO_NAMES, Odd, refused

GREAT = 123456789012345678901234567890
NO_TABLES = [
    0, 1, True, False, None, "", "a", "{}", b"", [], [("a", 1)], (), {}, {"a": 1}, {"a"}, Odd(), Table, Ratio(1),
]
NO_KEYS_OF_DICTS = [value for value in NO_NAMES if not isinstance(value, (list, dict, set))]

COUNTS = [
    {}, {"a": 1}, {"a": 0}, {"b": 2, "a": -3}, {"a": 3}, {"c": GREAT, "a": 1}, {"c": -GREAT, "b": -2},
    {"z9": 4, "abcdefgh": -4, "a": 0},
]


def plain_sum(one, other, sign):
    """The counts of one table plus (or minus) another one, worked out key by key, without 0."""
    found = {}
    for key in sorted({*one, *other}):
        number = one.get(key, 0) + sign * other.get(key, 0)
        if number != 0:
            found[key] = number
    return found


class Making(unittest.TestCase):
    def test_empty(self):
        for table in (Table(), Table(None), Table({}), Table(counts=None), Table(counts={}), Table({"a": 0})):
            self.assertEqual(table.counts(), {})
            self.assertEqual(table.used_keys(), [])
            self.assertEqual(table, Table())

    def test_from_a_dict(self):
        for counts in COUNTS:
            expected = {key: counts[key] for key in sorted(counts) if counts[key]}
            for table in (Table(counts), Table(counts=counts)):
                self.assertEqual(table.counts(), expected)
                self.assertEqual(list(table.counts()), sorted(expected))
                self.assertEqual(table.used_keys(), sorted(expected))

    def test_all_names_are_keys(self):
        table = Table({name: at + 1 for at, name in enumerate(NAMES)})
        self.assertEqual(table.used_keys(), sorted(NAMES))

    def test_the_sequence_of_the_keys_has_no_effect(self):
        items = [("a", 1), ("b", -2), ("c", 0), ("d", GREAT)]
        for some in permutations(items):
            table = Table(dict(some))
            self.assertEqual(table, Table(dict(items)))
            self.assertEqual(list(table.counts().items()), [("a", 1), ("b", -2), ("d", GREAT)])
            self.assertEqual(repr(table), repr(Table(dict(items))))

    def test_the_passed_dict_may_be_changed_afterwards(self):
        counts = {"b": 2, "a": 1, "c": 0}
        table = Table(counts)
        self.assertEqual(list(counts.items()), [("b", 2), ("a", 1), ("c", 0)])
        counts["a"] = 7
        counts["c"] = 8
        del counts["b"]
        self.assertEqual(table.counts(), {"a": 1, "b": 2})

    def test_values_that_are_no_dicts(self):
        wrong = [value for value in NO_TABLES if value is not None and not isinstance(value, dict)]
        refused(self, InvalidTable, wrong + [Table(), Table({"a": 1})], Table)
        refused(self, InvalidTable, wrong, lambda value: Table(counts=value))

    def test_dicts_with_wrong_keys(self):
        refused(self, InvalidTable, [{key: 1} for key in NO_KEYS_OF_DICTS], Table)
        refused(self, InvalidTable, [{"a": 1, key: 0, "b": 2} for key in NO_KEYS_OF_DICTS], Table)

    def test_dicts_with_wrong_numbers(self):
        wrong = NO_INTEGERS + [Ratio(1), Ratio(0), Table()]
        refused(self, InvalidTable, [{"a": number} for number in wrong], Table)
        refused(self, InvalidTable, [{"b": 1, "a": number} for number in wrong], Table)

    def test_the_error_has_the_keys_in_the_passed_sequence(self):
        with self.assertRaises(InvalidTable) as held:
            Table({"b": 1, "a": True, "": 2})
        self.assertEqual(list(held.exception.value.items()), [("b", 1), ("a", True), ("", 2)])
        self.assertIs(held.exception.value["a"], True)

    def test_maps_to_integers(self):
        for counts in COUNTS:
            self.assertIs(maps_to_integers(counts), True)
        for value in (None, [], "a", Table(), {"a": True}, {"a": None}, {"A": 1}, {1: 1}):
            self.assertIs(maps_to_integers(value), False)


class Asking(unittest.TestCase):
    def test_at(self):
        table = Table({"a": 3, "b": -1, "c": 0, "d": GREAT})
        self.assertEqual([table.at(key) for key in "abcde"], [3, -1, 0, GREAT, 0])
        self.assertEqual(table.at(key="a"), 3)

    def test_at_keys_that_the_table_lacks(self):
        for key in NAMES:
            for table in (Table(), Table({"q": 5})):
                self.assertEqual(table.at(key), 0)
                self.assertIs(type(table.at(key)), int)

    def test_at_what_is_no_key(self):
        for table in (Table(), Table({"a": 1})):
            refused(self, InvalidName, NO_NAMES, table.at)
        refused(self, InvalidName, NO_NAMES, lambda value: Table().at(key=value))

    def test_returned_lists_and_dicts_are_new(self):
        table = Table({"b": 2, "a": 1})
        keys, counts = table.used_keys(), table.counts()
        keys.append("c")
        counts["a"] = 9
        counts["c"] = 4
        del counts["b"]
        self.assertEqual(table.used_keys(), ["a", "b"])
        self.assertEqual(table.counts(), {"a": 1, "b": 2})
        self.assertEqual(table.at("a"), 1)
        self.assertEqual(len(table), 2)

    def test_kinds_of_what_is_returned(self):
        table = Table({"b": 2})
        self.assertIs(type(table.used_keys()), list)
        self.assertIs(type(table.counts()), dict)

    def test_is_plain(self):
        cases = [({}, True), ({"a": 0}, True), ({"a": 1, "b": GREAT}, True), ({"a": -1}, False),
                 ({"a": 5, "b": -1}, False), ({"b": -GREAT, "c": 1}, False), ({"a": 1, "b": 0}, True)]
        for counts, expected in cases:
            self.assertIs(Table(counts).is_plain, expected, counts)

    def test_is_plain_cannot_be_assigned(self):
        with self.assertRaises(AttributeError):
            Table().is_plain = False

    def test_len(self):
        for counts, expected in (({}, 0), ({"a": 0}, 0), ({"a": 5}, 1), ({"a": 1, "b": -1, "c": 0}, 2)):
            self.assertEqual(len(Table(counts)), expected)

    def test_in(self):
        table = Table({"a": 1, "b": 0, "c": -1})
        self.assertIs("a" in table, True)
        self.assertIs("c" in table, True)
        self.assertIs("b" in table, False)
        self.assertIs("d" in table, False)
        self.assertIs("a" not in table, False)

    def test_in_for_what_is_no_key(self):
        for value in NO_NAMES + [Table(), Table({"a": 1}), Ratio(1), [["a"]], ({},)]:
            self.assertIs(value in Table({"a": 1}), False)
            self.assertIs(value in Table(), False)

    def test_repr(self):
        cases = [
            (Table(), "Table({})"), (Table({"a": 3}), "Table({'a': 3})"), (Table({"a": 0}), "Table({})"),
            (Table({"b": -1, "a": 3, "c": 0}), "Table({'a': 3, 'b': -1})"),
            (Table({"a": GREAT}), f"Table({{'a': {GREAT}}})"),
        ]
        for table, text in cases:
            self.assertEqual(repr(table), text)

    def test_queries_that_are_repeated(self):
        table = Table({"b": 2, "a": -1})
        for _ in range(2):
            self.assertEqual(table.used_keys(), ["a", "b"])
            self.assertEqual(table.counts(), {"a": -1, "b": 2})
            self.assertEqual(table.at("b"), 2)


class Working(unittest.TestCase):
    def test_sums_and_differences(self):
        for one in COUNTS:
            for other in COUNTS:
                left, right = Table(one), Table(other)
                self.assertEqual((left + right).counts(), plain_sum(one, other, 1))
                self.assertEqual((left - right).counts(), plain_sum(one, other, -1))
                self.assertEqual(list((left + right).counts()), sorted((left + right).counts()))
                self.assertEqual((left, right), (Table(one), Table(other)))
                self.assertIs(type(left + right), Table)
                self.assertIs(type(left - right), Table)

    def test_written_out(self):
        one, other = Table({"a": 1, "b": 2}), Table({"b": -2, "c": 3})
        self.assertEqual((one + other).counts(), {"a": 1, "c": 3})
        self.assertEqual((one - other).counts(), {"a": 1, "b": 4, "c": -3})
        self.assertEqual((one - one).counts(), {})
        self.assertEqual((-one).counts(), {"a": -1, "b": -2})

    def test_minus_in_front(self):
        for counts in COUNTS:
            table = Table(counts)
            self.assertEqual((-table).counts(), plain_sum({}, counts, -1))
            self.assertEqual(-(-table), table)
            self.assertEqual(table, Table(counts))

    def test_what_is_no_table_on_the_right(self):
        for left in (Table(), Table({"a": 1})):
            refused(self, InvalidTable, NO_TABLES, lambda value: left + value)
            refused(self, InvalidTable, NO_TABLES, lambda value: left - value)

    def test_times(self):
        for counts in COUNTS:
            for many in (0, 1, -1, 2, -3, GREAT):
                expected = {key: counts[key] * many for key in counts if counts[key] * many}
                self.assertEqual(Table(counts).times(many).counts(), expected)
                self.assertEqual(Table(counts).times(many=many).counts(), expected)
        self.assertEqual(Table({"a": 5}).times(0), Table())
        self.assertEqual(Table({"a": 5, "b": -1}).times(-2).counts(), {"a": -10, "b": 2})

    def test_times_leaves_the_table(self):
        table = Table({"a": 5})
        table.times(3)
        self.assertEqual(table, Table({"a": 5}))

    def test_times_what_is_no_integer(self):
        for table in (Table(), Table({"a": 1})):
            refused(self, InvalidNumber, NO_INTEGERS + [Ratio(2), Ratio(0), Table()], table.times)


class Renaming(unittest.TestCase):
    def renamed(self, counts, names):
        table = Table(counts)
        found = table.renamed(names)
        self.assertIs(type(found), Table)
        self.assertEqual(found, table.renamed(names=names))
        self.assertEqual(table, Table(counts))
        self.assertEqual(list(found.counts()), sorted(found.counts()))
        return found.counts()

    def test_no_names(self):
        self.assertEqual(self.renamed({"a": 1, "b": 2}, {}), {"a": 1, "b": 2})
        self.assertEqual(self.renamed({}, {"a": "b"}), {})

    def test_keys_that_stay(self):
        self.assertEqual(self.renamed({"a": 1, "b": 2}, {"a": "c"}), {"b": 2, "c": 1})
        self.assertEqual(self.renamed({"a": 1}, {"a": "a"}), {"a": 1})

    def test_keys_become_one(self):
        self.assertEqual(self.renamed({"a": 1, "b": 2, "c": 4}, {"a": "d", "b": "d"}), {"c": 4, "d": 3})
        self.assertEqual(self.renamed({"a": 1, "b": 2}, {"a": "b"}), {"b": 3})
        self.assertEqual(self.renamed({"a": 1, "b": 2}, {"b": "a"}), {"a": 3})
        self.assertEqual(self.renamed({"a": 1, "b": 2, "c": 3}, {"a": "c", "b": "c"}), {"c": 6})

    def test_keys_are_exchanged(self):
        self.assertEqual(self.renamed({"a": 1, "b": 2}, {"a": "b", "b": "a"}), {"a": 2, "b": 1})
        names = {"a": "b", "b": "c", "c": "a"}
        self.assertEqual(self.renamed({"a": 1, "b": 2, "c": 3}, names), {"a": 3, "b": 1, "c": 2})

    def test_all_at_once(self):
        self.assertEqual(self.renamed({"a": 1}, {"a": "b", "b": "c"}), {"b": 1})

    def test_keys_add_up_to_0(self):
        self.assertEqual(self.renamed({"a": 3, "b": -3}, {"a": "b"}), {})
        self.assertEqual(self.renamed({"a": 3, "b": -3, "c": 1}, {"a": "d", "b": "d"}), {"c": 1})
        self.assertEqual(self.renamed({"a": 3, "b": -3, "c": 1}, {"a": "c", "b": "c"}), {"c": 1})

    def test_names_for_keys_that_the_table_lacks(self):
        self.assertEqual(self.renamed({"a": 1}, {"x": "a", "y": "z"}), {"a": 1})

    def test_the_sequence_of_the_names_has_no_effect(self):
        items = [("a", "b"), ("b", "c"), ("c", "b"), ("x", "a")]
        for some in permutations(items):
            self.assertEqual(self.renamed({"a": 1, "b": 2, "c": 4}, dict(some)), {"b": 5, "c": 2})

    def test_the_names_are_not_changed(self):
        names = {"b": "a", "a": "c"}
        Table({"a": 1, "b": 2}).renamed(names)
        self.assertEqual(list(names.items()), [("b", "a"), ("a", "c")])

    def test_values_that_are_no_dicts(self):
        wrong = [
            None, True, False, 0, "", "a", b"", [], [("a", "b")], (), ("a", "b"), {"a"}, Odd(), dict, Table({"a": 1}),
        ]
        for table in (Table(), Table({"a": 1})):
            refused(self, InvalidNames, wrong, table.renamed)

    def test_wrong_names(self):
        for table in (Table(), Table({"a": 1})):
            refused(self, InvalidNames, [{key: "a"} for key in NO_KEYS_OF_DICTS], table.renamed)
            refused(self, InvalidNames, [{"a": name} for name in NO_NAMES], table.renamed)
            refused(self, InvalidNames, [{"a": "b", "x": name} for name in NO_NAMES], table.renamed)

    def test_the_error_has_the_names_in_the_passed_sequence(self):
        with self.assertRaises(InvalidNames) as held:
            Table({"a": 1}).renamed({"b": "a", "a": 1})
        self.assertEqual(list(held.exception.value.items()), [("b", "a"), ("a", 1)])


class Equality(unittest.TestCase):
    def test_equal(self):
        self.assertTrue(Table({"a": 1, "b": 0}) == Table({"a": 1}))
        self.assertFalse(Table({"a": 1, "b": 0}) != Table({"a": 1}))
        self.assertTrue(Table({"a": 1, "b": 2}) == Table({"b": 2, "a": 1}))
        self.assertTrue(Table() == Table(None))

    def test_not_equal(self):
        for other in (Table(), Table({"a": 2}), Table({"b": 1}), Table({"a": 1, "b": 1}), Table({"a": -1})):
            self.assertFalse(Table({"a": 1}) == other)
            self.assertTrue(Table({"a": 1}) != other)

    def test_not_equal_to_values_of_another_kind(self):
        for other in NO_TABLES:
            self.assertFalse(Table({"a": 1}) == other)
            self.assertTrue(Table({"a": 1}) != other)
            self.assertFalse(other == Table({"a": 1}))
        self.assertFalse(Table() == {})
        self.assertFalse(Table() == None)  # noqa: E711


class Listed(unittest.TestCase):
    def test_each_method_is_defined_in_the_class(self):
        names = [
            "__init__", "at", "used_keys", "counts", "is_plain", "__add__", "__sub__", "__neg__", "times", "renamed",
            "__len__", "__contains__", "__repr__", "__eq__",
        ]
        for name in names:
            self.assertIn(name, vars(Table))
        self.assertEqual(Table.__module__, "notesums.tables")
        self.assertIsInstance(vars(Table)["is_plain"], property)


if __name__ == "__main__":
    unittest.main()
