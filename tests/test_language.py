"""Rules of the language that Python itself does not look after, over all files of the package."""

import ast
import os
import unittest

FOLDER = os.path.join(os.path.dirname(os.path.dirname(os.path.abspath(__file__))), "notesums")


def files():
    """The tuples (name, text) of all files of the package."""
    found = []
    for name in sorted(os.listdir(FOLDER)):
        if name.endswith(".py"):
            with open(os.path.join(FOLDER, name), encoding="utf-8") as text:
                found.append((name, text.read()))
    return found


def stars_in_indexes(tree):
    """The lines with a star in the brackets of an index."""
    indexes = [node.slice for node in ast.walk(tree) if isinstance(node, ast.Subscript)]
    return [part.lineno for index in indexes for part in ast.walk(index) if isinstance(part, ast.Starred)]


def stars_in_sets(tree):
    """The lines with a star in a set literal."""
    sets = [node for node in ast.walk(tree) if isinstance(node, ast.Set)]
    return [part.lineno for node in sets for part in node.elts if isinstance(part, ast.Starred)]


class Stars(unittest.TestCase):
    def test_what_is_looked_for(self):
        for text in ("found[(*places, 1)] = 2", "a = b[*c]", "a = b[(1, (*c, 2))]"):
            self.assertEqual(stars_in_indexes(ast.parse(text)), [1])
        self.assertEqual(stars_in_sets(ast.parse("a = {*b, 1}")), [1])
        self.assertEqual(stars_in_indexes(ast.parse("a = (*b, 1)\nc[a] = [*b]")), [])

    def test_no_star_in_an_index_or_a_set(self):
        for name, text in files():
            tree = ast.parse(text)
            self.assertEqual((name, stars_in_indexes(tree) + stars_in_sets(tree)), (name, []))


class Sizes(unittest.TestCase):
    def test_files_and_lines(self):
        for name, text in files():
            lines = text.split("\n")
            self.assertLess(len(lines) - 1, 400, name)
            for line in lines:
                self.assertLessEqual(len(line), 120, (name, line))
                self.assertTrue(all(" " <= sign <= "~" for sign in line), (name, line))

    def test_functions(self):
        for name, text in files():
            for node in ast.walk(ast.parse(text)):
                if isinstance(node, ast.FunctionDef):
                    self.assertLessEqual(node.end_lineno - node.lineno + 1, 40, (name, node.name))


if __name__ == "__main__":
    unittest.main()
