"""Renamings: point 36."""

import unittest
from itertools import permutations, product

from made import cases, fraction, named, ratio, reduced, sketch_of, some_keys, some_question, some_sketch, weights_of
from notesums.answers import can_answer
from notesums.errors import InvalidNames, InvalidRenaming
from notesums.makers import buckets, sample, signed_buckets, signs
from notesums.notes import Note
from notesums.questions import Question
from notesums.ratios import Ratio
from notesums.sketches import Sketch
from notesums.tables import Table
from notesums.turns import averaged, keeps, matching, renamings, renamings_of
from wrong import NO_NAMES, Odd, refused

A, B, C, D = named("abcd")
COIN, APART = signs(["a", "b"]), sample(["a", "b"], 1)
SWAP, SAME = {"a": "b", "b": "a"}, {"a": "a", "b": "b"}
NO_RENAMINGS = [None, True, 0, 1, "", "ab", [], ["a", "b"], ("b", "a"), {"a", "b"}, Odd(), COIN, Table({"a": 1}), {},
                {"a": "a"}, {"a": "b"}, {"a": "a", "b": "a"}, {"a": "b", "b": "b"}, {"a": "a", "b": "c"},
                {"a": "a", "c": "b"}, {"a": "a", "b": "b", "c": "c"}, {"a": "b", "b": "c", "c": "a"},
                {"a": "x", "b": "y"},
                {"a": "a", "b": None}, {"a": "a", "b": 1}, {"a": A, "b": B}, {1: "a", 2: "b"}, {"a": "a", "b": ["b"]}]


def rows_of(note, keys, renaming):
    """The reduced rows of a renamed note, by an elimination of the test's own."""
    return reduced([[row.get(old,
            0) for new in keys for old in renaming if renaming[old] == new] for row in note.sums()])


def is_matching(sketch, renaming, found):
    """Whether a dict matches each seed with one that has the same weight, and the rows of its renamed note."""
    keys = sketch.used_keys()
    same = {key: key for key in keys}
    if sorted(found) != sorted(sketch.seeds()) or sorted(found.values()) != sorted(sketch.seeds()):
        return False
    return all(sketch.weight(one) == sketch.weight(other)
               and rows_of(sketch.note(one), keys, renaming) == rows_of(sketch.note(other), keys, same)
               for one, other in found.items())


def is_kept(sketch, renaming):
    """Whether some way to match all seeds is a matching, by going through all of them."""
    seeds = sketch.seeds()
    return any(is_matching(sketch, renaming, dict(zip(seeds, way))) for way in permutations(seeds))


def all_renamings(sketch):
    """All dicts from the keys to the keys, one to one, in order."""
    keys = sketch.used_keys()
    return [dict(zip(keys, way)) for way in sorted(product(keys, repeat=len(keys))) if len(set(way)) == len(keys)]


def then(one, other):
    """The one renaming after the other."""
    return {key: other[one[key]] for key in one}


def some_symmetric_sketch(chance, keys):
    """A sketch with notes that are much alike."""
    weights = [chance.choice([1, 1, 1, 2]) for _ in range(chance.randint(1, 4))]
    notes = []
    for _ in weights:
        sums = []
        for _ in range(chance.randint(0, 2)):
            sums.append({key: chance.choice([0, 1, 1, -1, 2]) for key in keys})
        notes.append(sums)
    return sketch_of(*notes, weights=[Ratio(weight, sum(weights)) for weight in weights])


class Keeping(unittest.TestCase):
    def test_written_out(self):
        self.assertIs(keeps(COIN, SWAP), True)
        self.assertEqual(matching(COIN, SWAP), {"s0": "s0", "s1": "s1"})
        self.assertEqual(matching(APART, SWAP), {"s0": "s1", "s1": "s0"})
        self.assertIs(keeps(sketch_of([{"a": 1, "b": 2}]), SWAP), False)
        self.assertIsNone(matching(sketch_of([{"a": 1, "b": 2}]), SWAP))
        self.assertIs(keeps(renaming=SAME, sketch=COIN), True)
        self.assertEqual(matching(renaming=SAME, sketch=COIN), {"s0": "s0", "s1": "s1"})

    def test_which_seed_is_matched_with_which(self):
        sketch, turn = sample(["a", "b", "c"], 1), {"a": "b", "b": "c", "c": "a"}
        self.assertEqual(matching(sketch, turn), {"s0": "s1", "s1": "s2", "s2": "s0"})

    def test_sums_told_otherwise(self):
        self.assertIs(keeps(sketch_of([{"a": 1}, {"b": 1}], [{"a": 2, "b": 1}, {"b": -3}, {}]), SWAP), True)
        self.assertIs(keeps(sketch_of([{"a": 2}], [{"b": -3}]), SWAP), True)
        self.assertIs(keeps(sketch_of([{"a": 1}, {"b": 1}], [{"b": 1}]), SWAP), False)
        self.assertEqual(matching(sketch_of([{"a": 1, "b": -1}]), SWAP), {"s0": "s0"})

    def test_weights_that_differ(self):
        uneven = sketch_of([{"a": 1}], [{"b": 1}], weights=[Ratio(1, 3), Ratio(2, 3)])
        self.assertIs(keeps(uneven, SWAP), False)
        self.assertEqual(renamings(uneven), [SAME])
        four = sketch_of([{"a": 1}], [{"b": 1}], [{"b": 5}], [{"a": 5}],
                         weights=[Ratio(1, 6), Ratio(1, 3), Ratio(1, 6), Ratio(1, 3)])
        self.assertEqual(matching(four, SWAP), {"s0": "s2", "s1": "s3", "s2": "s0", "s3": "s1"})
        self.assertEqual(matching(four, SAME), {seed: seed for seed in four.seeds()})
        three = sketch_of([{"a": 1}], [{"a": 1}], [{"b": 1}], weights=[Ratio(1, 4), Ratio(1, 4), Ratio(1, 2)])
        self.assertIs(keeps(three, SWAP), False)

    def test_keys_of_matchings_are_sorted(self):
        sketch = Sketch([("z", Ratio(1, 2), Note.of_keys("a")), ("b", Ratio(1, 2), Note.of_keys("b"))])
        self.assertEqual(list(matching(sketch, SWAP)), ["b", "z"])

    def test_without_keys(self):
        for sketch in (sketch_of([]), sketch_of([{}], [{"a": 0}, {}])):
            self.assertEqual(renamings(sketch), [{}])
            self.assertEqual(matching(sketch, {}), {seed: seed for seed in sketch.seeds()})
            self.assertEqual(renamings_of(sketch, A), [{}])
            refused(self, InvalidRenaming, [SAME, {"a": "a"}, None], lambda value: keeps(sketch, value))

    def test_what_is_no_renaming(self):
        values = NO_RENAMINGS + [{"a": "a", "b": name} for name in NO_NAMES]
        refused(self, InvalidRenaming, values, lambda value: keeps(COIN, value))
        refused(self, InvalidRenaming, values, lambda value: matching(COIN, value))


class All(unittest.TestCase):
    def check(self, sketch):
        expected = [renaming for renaming in all_renamings(sketch) if is_kept(sketch, renaming)]
        found = renamings(sketch)
        self.assertEqual(found, expected)
        self.assertEqual([list(renaming) for renaming in found], [sketch.used_keys()] * len(found))
        for renaming in all_renamings(sketch):
            told = matching(sketch, renaming)
            self.assertIs(keeps(sketch, renaming), renaming in expected)
            self.assertEqual(told is not None, renaming in expected)
            if told is not None:
                self.assertTrue(is_matching(sketch, renaming, told))
                self.assertEqual(list(told), sorted(told))
        for one in found[:6]:
            for other in found[-6:]:
                self.assertIn(then(one, other), found)

    def test_against_going_through_all(self):
        for chance in cases(1, 60):
            self.check(some_symmetric_sketch(chance, some_keys(chance, 3)))
        for chance in cases(2, 6):
            self.check(some_symmetric_sketch(chance, list("abcd")))
        for sketch in (sample(list("abc"), 2), signs(list("abc")), buckets(["a", "b"], 2),
                signed_buckets(["a", "b"], 2)):
            self.check(sketch)

    def test_made_sketches(self):
        for sketch, many in ((sample(list("abcdef"), 5), 720), (signs(list("abcd")), 24),
                (buckets(list("abcd"), 2), 24)):
            self.assertEqual(renamings(sketch), all_renamings(sketch))
            self.assertEqual(len(renamings(sketch)), many)

    def test_what_is_returned_may_be_changed(self):
        found = renamings(COIN)
        found[0]["a"] = "z"
        found.clear()
        self.assertEqual(renamings(COIN), [SAME, SWAP])
        told = matching(APART, SWAP)
        told.clear()
        self.assertEqual(matching(APART, SWAP), {"s0": "s1", "s1": "s0"})
        self.assertEqual(SWAP, {"a": "b", "b": "a"})


class Questions(unittest.TestCase):
    def test_written_out(self):
        three = sample(["a", "b", "c"], 2)
        found = renamings_of(three, A * B + C)
        self.assertEqual(found, [{"a": "a", "b": "b", "c": "c"}, {"a": "b", "b": "a", "c": "c"}])
        self.assertEqual(len(renamings_of(three, A + B + C)), 6)
        self.assertEqual(renamings_of(question=A, sketch=COIN), [SAME])
        self.assertEqual(renamings_of(COIN, Question()), [SAME, SWAP])

    def test_strange_keys_stay(self):
        self.assertEqual(renamings_of(COIN, D * A + D * B), [SAME, SWAP])
        self.assertEqual(renamings_of(COIN, D * A + C * B), [SAME])
        self.assertEqual(renamings_of(COIN, C - D), [SAME, SWAP])

    def test_against_going_through_all(self):
        for chance in cases(3, 50):
            keys = some_keys(chance, 3)
            sketch = some_symmetric_sketch(chance, keys)
            question = some_question(chance, keys + ["y"], 2, 3)
            if chance.random() < 0.5:
                question = averaged(question, renamings(sketch))
            expected = [renaming for renaming in all_renamings(sketch)
                        if is_kept(sketch, renaming) and question.renamed(renaming) == question]
            self.assertEqual(renamings_of(sketch, question), expected)

    def test_renamed_questions_are_answered_alike(self):
        for chance in cases(4, 40):
            keys = some_keys(chance, 3)
            sketch, question = some_symmetric_sketch(chance, keys), some_question(chance, keys, 2, 3)
            found = renamings(sketch)
            for renaming in found:
                self.assertEqual(can_answer(sketch, question.renamed(renaming)), can_answer(sketch, question))
            whole = averaged(question, found)
            self.assertEqual(renamings_of(sketch, whole), found)
            if can_answer(sketch, question):
                self.assertTrue(can_answer(sketch, whole))


class Averaged(unittest.TestCase):
    def test_written_out(self):
        self.assertEqual(str(averaged(A * A, [SAME, SWAP])), "1/2*b*b + 1/2*a*a")
        self.assertEqual(averaged(A * A, [SWAP]), B * B)
        self.assertEqual(averaged(group=({},), question=A), A)
        self.assertEqual(averaged(A, [{}, {}, {"a": "z"}]), A * Ratio(2, 3) + Question.of_key("z") * Ratio(1, 3))
        self.assertEqual(averaged(A - B, [SAME, SWAP]), Question())

    def test_products_that_become_one(self):
        self.assertEqual(averaged(A * B + A * A, [{"a": "b"}]), B * B * 2)
        self.assertEqual(averaged(A * B - A * A, [{"b": "a"}]), Question())
        self.assertEqual(averaged(A * C + B * C, [{"a": "b", "c": "a"}, {"b": "a", "a": "c"}]),
                         (A * B * 2 + C * C + A * C) * Ratio(1, 2))

    def test_by_the_test_itself(self):
        for chance in cases(5, 60):
            question = some_question(chance, list("abc"), 3, 5)
            group = []
            for _ in range(chance.randint(1, 4)):
                old = chance.sample("abcd", chance.randint(0, 4))
                group.append(dict(zip(old, chance.sample("abcxyz", len(old)))))
            total = {}
            for renaming in group:
                for keys, number in weights_of(question).items():
                    new = tuple(sorted(renaming.get(key, key) for key in keys))
                    total[new] = total.get(new, 0) + number / len(group)
            self.assertEqual(averaged(question, group), Question([(ratio(n), keys) for keys, n in total.items()]))
            table = Table({key: chance.randint(-3, 3) for key in "abcxyz"})
            values = [fraction(question.renamed(renaming).at(table)) for renaming in group]
            self.assertEqual(fraction(averaged(question, group).at(table)), sum(values) / len(group))

    def test_wrong_lists(self):
        refused(self, InvalidRenaming, [None, True, 0, "a", "", {}, SAME, {"a"}, Odd(), COIN, [], ()],
                lambda value: averaged(A, value))

    def test_wrong_elements(self):
        elements = [None, True, 0, "a", [], ["a"], (), {"a"}, Odd(), COIN, {"a": "b", "b": "b"}, {"a": "a", "b": "a"},
                    {"a": 1}, {1: "a"}, {"a": None}, {"A": "a"}, {"a": "A"}, {"a": A}, {"a": "x", "b": "y", "c": "x"}]
        elements += [{"a": name} for name in NO_NAMES]
        refused(self, InvalidRenaming, elements, lambda value: averaged(A, [value]))
        refused(self, InvalidRenaming, elements, lambda value: averaged(A, (SWAP, {}, value, None)))
        self.assertFalse(issubclass(InvalidRenaming, InvalidNames))


class Sketches(unittest.TestCase):
    def test_any_sketch(self):
        for chance in cases(6, 30):
            sketch = some_sketch(chance, some_keys(chance, 3), 3, 3)
            same = {key: key for key in sketch.used_keys()}
            self.assertEqual(renamings(sketch)[0], same)
            self.assertTrue(keeps(sketch, dict(reversed(list(same.items())))))


if __name__ == "__main__":
    unittest.main()
