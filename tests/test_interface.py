"""The interface of the document: names, parameters and the files in which they are defined."""

import ast
import importlib
import inspect
import os
import unittest

FOLDER = os.path.join(os.path.dirname(os.path.dirname(os.path.abspath(__file__))), "notesums")

FUNCTIONS = {
    "ratios": ["is_integer(value)", "is_number(value)"],
    "rules": ["mean_of(sketch, rule)", "mean_at(sketch, rule, table)", "is_rule(sketch, question, value)"],
    "answers": [
        "can_answer(sketch, question)", "rule_for(sketch, question)", "failing_degrees(sketch, question)",
        "answer_base(sketch, degree)", "remainder(sketch, question)", "zero_base(sketch, degree)",
        "answers_as_much(one, other)", "unmatched_seeds(one, other)",
    ],
    "moments": ["moment_twins(sketch, question)", "is_moment_twins(sketch, question, value)"],
    "boxes": ["box_tables(box)", "box_rule(sketch, question, box)", "is_box_rule(sketch, question, box, value)"],
    "twins": [
        "is_stack(value)", "parting_seeds(sketch, one, other)", "thinned(one, other)", "moved_stack(stack, table)",
        "exact_twins(sketch, question, *, box=None)", "is_twins(sketch, question, value)",
        "failing_size(sketch, question, *, limit=2)",
    ],
    "copies": [
        "least_copies(sketch, question)", "copies_rule(sketch, question, many)",
        "is_copies_rule(sketch, question, many, value)", "copies_twins(sketch, question, many)",
        "is_copies_twins(sketch, question, many, value)", "rule_of_copies(sketch, question, many)",
        "unseen_base(sketch)", "is_unseen(sketch, value)", "unseen_pair(sketch, question)",
    ],
    "makers": [
        "sample(keys, many)", "signs(keys)", "buckets(keys, many)", "signed_buckets(keys, many)",
        "weighted(*notes, **weights)",
    ],
    "tying": ["tied(sketch, names)", "own(sketch, names)", "tied_joins(sketch, names)", "tying_loses(sketch, names)"],
    "enough": [
        "is_enough(sketch, question, seeds)", "least_sets(sketch, question)", "greatest_sets(sketch, question)",
        "needed_seeds(sketch, question)", "needed_sums(sketch, question)", "needed_keys(sketch, question)",
    ],
    "kept": ["tried(kept, changes, *, rule=None)"],
    "turns": [
        "keeps(sketch, renaming)", "matching(sketch, renaming)", "renamings(sketch)", "renamings_of(sketch, question)",
        "averaged(question, group)",
    ],
    "texts": [
        "table_text(table)", "sum_text(row)", "note_text(note)", "sketch_text(sketch)", "rule_text(rule)",
        "read_question(text)", "read_table(text)", "read_note(text)", "read_sketch(text)", "read_rule(text)",
    ],
    "judge": ["is_claim(value)", "is_certificate(claim, value)", "certificate_of(claim)"],
    "lean": [
        "without_sum(sketch, seed, position)", "with_sums(sketch, sums)", "lean(sketch, questions)",
        "least_additions(sketch, question, sums)",
    ],
    "spreads": [
        "spread_question(sketch, rule)", "spread_at(sketch, rule, table)", "spread_over(sketch, rule, tables)",
        "spread_rule(sketch, rule)", "is_steady(sketch, rule, table)",
    ],
    "best": [
        "right_angle(sketch, one, other, tables)", "least_spread(sketch, question, tables, degree)",
        "has_least_spread(sketch, rule, tables, degree)",
    ],
}

METHODS = {
    ("ratios", "Ratio"): [
        "__init__(self, top, bottom=1)", "over(self, other)", "is_below(self, other)", "total(*numbers)",
        "top", "bottom", "sign", "__add__", "__sub__", "__mul__", "__neg__", "__str__", "__repr__", "__eq__",
    ],
    ("tables", "Table"): [
        "__init__(self, counts=None)", "at(self, key)", "used_keys(self)", "counts(self)", "times(self, many)",
        "renamed(self, names)", "is_plain", "__add__", "__sub__", "__neg__", "__len__", "__contains__", "__repr__", "__eq__",
    ],
    ("questions", "Question"): [
        "__init__(self, terms=())", "of_key(key)", "constant(number)", "terms(self)", "used_keys(self)",
        "weight(self, product)", "parts(self)", "power(self, many)", "at(self, table)", "moved(self, table)",
        "put(self, questions)", "renamed(self, names)", "degree", "__add__", "__sub__", "__mul__", "__neg__", "__str__",
        "__repr__", "__eq__",
    ],
    ("notes", "Note"): [
        "__init__(self, sums)", "of_keys(*keys)", "sums(self)", "used_keys(self)", "shows(self, table)",
        "questions(self)", "rows(self)", "has(self, question)", "worth_the_same(self, other)", "through(self, rows)",
        "renamed(self, names)", "is_plain", "__add__", "__len__", "__repr__", "__eq__",
    ],
    ("sketches", "Sketch"): [
        "__init__(self, seeds)", "seeds(self)", "used_keys(self)", "weight(self, seed)", "note(self, seed)",
        "walk(self)", "shows(self, seed, table)", "merged(self, other)", "paired(self, other)", "copies(self, many)",
        "only(self, seeds)", "through(self, rows)", "renamed(self, names)", "is_plain", "__len__", "__eq__", "__repr__",
    ],
    ("rules", "Rule"): [
        "__init__(self, formulas)", "formula(self, seed)", "seeds(self)", "fits(self, sketch)", "degree", "__add__",
        "__sub__", "__mul__", "__repr__", "__eq__",
    ],
    ("kept", "Kept"): [
        "__init__(self, sketch, seed)", "sketch", "seed", "shown", "rule", "use(self, rule)", "change(self, key, number)",
        "add(self, table)", "take_in(self, other)", "answer(self)", "copy(self)", "trial(self)",
        "of_table(sketch, table)", "average(kept)", "__repr__", "__eq__",
    ],
    ("desk", "Desk"): [
        "__init__(self)", "do(self, command)", "do_all(self, commands)", "undo(self)", "log(self)",
        "tried(self, commands)", "names(self)", "__eq__",
    ],
}
PROPERTIES = ["top", "bottom", "sign", "is_plain", "degree", "sketch", "seed", "shown", "rule"]


def defined(file):
    """The functions and classes that a file defines, and the methods of each class."""
    with open(os.path.join(FOLDER, f"{file}.py"), encoding="utf-8") as text:
        tree = ast.parse(text.read())
    found = {}
    for node in tree.body:
        if isinstance(node, (ast.FunctionDef, ast.ClassDef)):
            found[node.name] = [part.name for part in node.body if isinstance(part, ast.FunctionDef)]
    return found


class Interface(unittest.TestCase):
    def test_functions(self):
        for file, functions in FUNCTIONS.items():
            module = importlib.import_module(f"notesums.{file}")
            for text in functions:
                name, rest = text.split("(", 1)
                with self.subTest(text):
                    self.assertIn(name, defined(file))
                    self.assertEqual(str(inspect.signature(getattr(module, name))), f"({rest}")

    def test_methods(self):
        for (file, kind), methods in METHODS.items():
            found = getattr(importlib.import_module(f"notesums.{file}"), kind)
            for text in methods:
                name, _, rest = text.partition("(")
                with self.subTest(f"{kind}.{text}"):
                    self.assertIn(name, defined(file)[kind])
                    self.assertIn(name, vars(found))
                    if rest:
                        self.assertEqual(str(inspect.signature(getattr(found, name))), f"({rest}")
                    self.assertEqual(isinstance(vars(found)[name], property), name in PROPERTIES)

    def test_ways_to_call(self):
        from notesums.kept import Kept
        self.assertIsInstance(vars(Kept)["of_table"], classmethod)
        self.assertIsInstance(vars(Kept)["average"], staticmethod)

    def test_the_package_is_one_folder(self):
        files = sorted(name for name in os.listdir(FOLDER) if name != "__pycache__")
        self.assertIn("__init__.py", files)
        self.assertEqual([name for name in files if not name.endswith(".py")], [])


if __name__ == "__main__":
    unittest.main()
