"""The errors of the interface: their classes, attributes and ancestors."""

import unittest

from notesums import errors
from notesums.ratios import Ratio
from notesums.tables import Table

ONE = {"a": 1}

# Each class with the parameters of its constructor, which are its attributes.
LISTED = {
    errors.NotesumsError: {
        errors.InvalidNumber: ("value",),
        errors.InvalidName: ("value",),
        errors.InvalidTable: ("value",),
        errors.InvalidTerms: ("position",),
        errors.InvalidQuestion: ("value",),
        errors.InvalidCount: ("value",),
        errors.InvalidSum: ("position",),
        errors.InvalidSeeds: ("position",),
        errors.InvalidWeight: ("name",),
        errors.InvalidKeys: ("value",),
        errors.InvalidRule: ("value",),
        errors.InvalidBox: ("value",),
        errors.InvalidStack: ("value",),
        errors.InvalidNames: ("value",),
        errors.InvalidTables: ("position",),
        errors.InvalidRenaming: ("value",),
        errors.InvalidKept: ("value",),
        errors.InvalidText: ("line",),
        errors.InvalidClaim: ("value",),
        errors.InvalidCommand: ("value",),
        errors.OtherSeeds: ("name",),
        errors.NotPlain: ("name",),
        errors.NotAnswered: ("value",),
        errors.TooMany: ("kind", "limit"),
    },
    errors.MissingError: {
        errors.UnknownSeed: ("value",),
        errors.UnknownName: ("value",),
    },
    errors.StateError: {
        errors.NameTaken: ("name",),
        errors.NoRule: (),
        errors.NothingToUndo: (),
        errors.DividedByZero: (),
    },
}
ROOTS = {
    errors.NotesumsError: ValueError,
    errors.MissingError: LookupError,
    errors.StateError: RuntimeError,
}
VALUES = [
    None, True, False, 0, -1, 10 ** 30, "", "a", "two words", b"a", 1.5, (), (1, [2]), [], [None],
    {}, {"b": 1, "a": 2}, {1, 2}, object(), int, len, Ratio(1, 2), Table(ONE), ValueError("x"),
]


def listed_classes():
    """Tuples of a class, the class in front of it, and the names of its parameters."""
    for front, classes in LISTED.items():
        for made, names in classes.items():
            yield made, front, names


class ErrorClasses(unittest.TestCase):
    def test_each_class_is_derived_from_the_one_in_front_of_it_and_nothing_else(self):
        for made, front, _ in listed_classes():
            self.assertEqual(made.__bases__, (front,), made)
        for front, root in ROOTS.items():
            self.assertEqual(front.__bases__, (root,), front)

    def test_each_class_is_defined_in_errors(self):
        for made, front, _ in listed_classes():
            self.assertEqual(made.__module__, "notesums.errors", made)
            self.assertEqual(front.__module__, "notesums.errors", front)

    def test_no_class_is_missing_and_none_is_added(self):
        found = {value for value in vars(errors).values() if isinstance(value, type)}
        self.assertEqual(found, {made for made, _, _ in listed_classes()} | set(ROOTS))

    def test_made_by_position(self):
        for made, _, names in listed_classes():
            for at, value in enumerate(VALUES):
                values = [VALUES[(at + step) % len(VALUES)] for step in range(len(names))]
                error = made(*values)
                for name, expected in zip(names, values):
                    self.assertIs(getattr(error, name), expected, (made, value))

    def test_made_by_the_names_of_the_parameters(self):
        for made, _, names in listed_classes():
            for at, value in enumerate(VALUES):
                values = {name: VALUES[(at + step) % len(VALUES)] for step, name in enumerate(names)}
                error = made(**values)
                for name in names:
                    self.assertIs(getattr(error, name), values[name], (made, value))

    def test_too_many_takes_the_kind_ahead_of_the_limit(self):
        error = errors.TooMany("sums", 8)
        self.assertEqual((error.kind, error.limit), ("sums", 8))
        error = errors.TooMany(limit=12, kind="seeds")
        self.assertEqual((error.kind, error.limit), ("seeds", 12))
        error = errors.TooMany("keys", limit=6)
        self.assertEqual((error.kind, error.limit), ("keys", 6))

    def test_the_parameters_are_needed_where_there_are_any(self):
        for made, _, names in listed_classes():
            if names:
                with self.assertRaises(TypeError):
                    made()
        with self.assertRaises(TypeError):
            errors.TooMany("sums")

    def test_made_without_parameters(self):
        for made in (errors.NoRule, errors.NothingToUndo, errors.DividedByZero):
            self.assertEqual(vars(made()), {}, made)
        for front in ROOTS:
            self.assertIsInstance(front(), ROOTS[front])

    def test_an_error_has_no_attributes_but_the_listed_ones(self):
        for made, _, names in listed_classes():
            error = made(*[None for _ in names])
            self.assertEqual(sorted(vars(error)), sorted(names), made)

    def test_caught_by_the_class_in_front_of_it_and_by_the_one_of_python(self):
        for made, front, names in listed_classes():
            for caught in (made, front, ROOTS[front], Exception):
                with self.assertRaises(caught) as held:
                    raise made(*[None for _ in names])
                self.assertIs(type(held.exception), made)

    def test_not_caught_by_the_other_classes(self):
        for made, front, names in listed_classes():
            error = made(*[None for _ in names])
            for other, root in ROOTS.items():
                if other is not front:
                    self.assertNotIsInstance(error, other)
                    self.assertNotIsInstance(error, root)
            for other, _, _ in listed_classes():
                if other is not made:
                    self.assertNotIsInstance(error, other)

    def test_two_errors_of_one_class_do_not_share_attributes(self):
        for made, _, names in listed_classes():
            one = made(*[(name, 1) for name in names])
            other = made(*[(name, 2) for name in names])
            for name in names:
                self.assertEqual(getattr(one, name), (name, 1), made)
                self.assertEqual(getattr(other, name), (name, 2), made)
                setattr(one, name, "changed")
                self.assertEqual(getattr(other, name), (name, 2), made)

    def test_a_dict_has_its_keys_in_the_passed_sequence(self):
        self.assertEqual(list(errors.InvalidTable({"b": 1, "a": 2}).value), ["b", "a"])


if __name__ == "__main__":
    unittest.main()
