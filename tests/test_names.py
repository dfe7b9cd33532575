"""NAMES, KEYS, and dicts from KEYS to KEYS."""

import unittest

from notesums.names import is_name, maps_names
from wrong import NAMES, NO_NAMES, Odd


class Names(unittest.TestCase):
    def test_names(self):
        for name in NAMES:
            self.assertIs(is_name(name), True, name)

    def test_no_names(self):
        for value in NO_NAMES:
            self.assertIs(is_name(value), False, value)

    def test_one_to_eight_characters(self):
        for length in range(20):
            self.assertIs(is_name("a" * length), 1 <= length <= 8, length)

    def test_each_character(self):
        for code in range(128):
            character = chr(code)
            letter, digit = "a" <= character <= "z", "0" <= character <= "9"
            self.assertIs(is_name(character), letter, character)
            self.assertIs(is_name("a" + character), letter or digit, character)
            self.assertIs(is_name("abc" + character + "efgh"), letter or digit, character)
            self.assertIs(is_name("abcdefg" + character), letter or digit, character)


class DictsOfNames(unittest.TestCase):
    def test_dicts_from_names_to_names(self):
        for value in ({}, {"a": "b"}, {"a": "a", "b": "a"}, {"abcdefgh": "z9", "c": "d"}):
            self.assertIs(maps_names(value), True, value)

    def test_other_values(self):
        for value in (None, True, 0, "", "a", [], [("a", "b")], (), {"a"}, Odd(), dict):
            self.assertIs(maps_names(value), False, value)

    def test_wrong_keys_and_wrong_worths(self):
        for wrong in NO_NAMES:
            self.assertIs(maps_names({"a": wrong}), False, wrong)
            self.assertIs(maps_names({"a": "b", "c": wrong}), False, wrong)
            if not isinstance(wrong, (list, dict, set)):
                self.assertIs(maps_names({wrong: "a"}), False, wrong)


if __name__ == "__main__":
    unittest.main()
