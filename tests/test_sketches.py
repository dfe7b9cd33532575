"""Sketches: points 10 and 11."""

import unittest
from fractions import Fraction

from made import asked, cases, sample, signs, sketch_of, some_keys, some_sketch
from notesums.errors import InvalidCount, InvalidNames, InvalidSeeds, InvalidSum, InvalidTable, InvalidWeight
from notesums.errors import OtherSeeds, UnknownSeed
from notesums.notes import Note
from notesums.questions import Question
from notesums.ratios import Ratio
from notesums.sketches import Sketch
from notesums.tables import Table
from wrong import NO_INTEGERS, NO_NAMES, Odd, position_of, refused, too_many

HALF = Ratio(1, 2)
EMPTY = Note([])
A, B = Note.of_keys("a"), Note.of_keys("b")
COIN = Sketch([("h", HALF, Note([{"a": 1, "b": 1}])), ("t", HALF, Note([{"a": 1, "b": -1}]))])
NO_SEEDS = NO_NAMES + ["x", "s0", "hh", ("h",), COIN, Ratio(1)]
NO_LISTS = [None, True, 0, 1, "", "h", {}, {"h": 1}, {"h"}, Odd(), COIN, EMPTY, Ratio(1)]


def walked(sketch):
    """The seeds of a sketch with their sums."""
    return [(name, str(weight), note.sums()) for name, weight, note in sketch.walk()]


class Making(unittest.TestCase):
    def test_seeds(self):
        sketch = Sketch([("z", HALF, A), ("a", Ratio(1, 3), B), ("m", Ratio(1, 6), EMPTY)])
        self.assertEqual(sketch.seeds(), ["z", "a", "m"])
        self.assertEqual(sketch.used_keys(), ["a", "b"])
        self.assertEqual(sketch.weight("a"), Ratio(1, 3))
        self.assertEqual(sketch.note(seed="z"), A)
        self.assertEqual(len(sketch), 3)
        self.assertEqual(list(sketch.walk()), [("z", HALF, A), ("a", Ratio(1, 3), B), ("m", Ratio(1, 6), EMPTY)])

    def test_weights_are_ratios(self):
        sketch = Sketch(seeds=(("s", 1, A),))
        self.assertIs(type(sketch.weight("s")), Ratio)
        self.assertEqual(sketch, Sketch([("s", Ratio(2, 2), A)]))
        self.assertEqual([type(weight) for _, weight, _ in sketch.walk()], [Ratio])

    def test_the_passed_list_may_be_changed(self):
        seeds = [("s", 1, A)]
        sketch = Sketch(seeds)
        seeds.append(("t", 1, B))
        sketch.seeds().append("t")
        sketch.used_keys().append("z")
        self.assertEqual((sketch.seeds(), sketch.used_keys()), (["s"], ["a"]))

    def test_what_is_no_list_with_an_element(self):
        for value in NO_LISTS + [[], ()]:
            self.assertIsNone(position_of(self, InvalidSeeds, lambda: Sketch(value)))

    def test_the_first_wrong_seed(self):
        wrong = [None, 1, "s", [], ["s", HALF, A], (), ("s", HALF), ("s", HALF, A, 1), {"s": A}, Odd(), A, COIN]
        wrong += [("s", HALF, value) for value in (None, [], [{"a": 1}], {"a": 1}, Question(), Table(), COIN, Note)]
        wrong += [(name, HALF, A) for name in NO_NAMES] + [("s", number, A) for number in NO_INTEGERS]
        wrong += [(A, HALF, "s"), (HALF, "s", A)]
        for seed in wrong:
            self.assertEqual(position_of(self, InvalidSeeds, lambda: Sketch([seed])), 0, seed)
            self.assertEqual(position_of(self, InvalidSeeds, lambda: Sketch([("t", HALF, A), seed, None])), 1, seed)
            self.assertEqual(position_of(self, InvalidSeeds, lambda: Sketch((("t", 0, A), ("u", 5, A), seed))), 2, seed)

    def test_a_name_twice(self):
        again = [("s", HALF, A), ("t", HALF, A), ("s", HALF, A), None]
        self.assertEqual(position_of(self, InvalidSeeds, lambda: Sketch(again)), 2)
        self.assertEqual(position_of(self, InvalidSeeds, lambda: Sketch([("s", 1, A), None, ("s", 1, A)])), 1)

    def test_wrong_weights(self):
        for seeds, name in (
            ([("s", 0, A), ("t", 1, A)], "s"), ([("s", 1, A), ("t", 0, A)], "t"), ([("s", 2, A), ("t", -1, A)], "t"),
            ([("s", Ratio(-1, 2), A)], "s"), ([("s", Ratio(0), A)], "s"), ([("s", 2, A)], None),
            ([("s", HALF, A)], None), ([("s", HALF, A), ("t", Ratio(1, 3), A)], None), ([("s", 1, A), ("t", 1, B)], None),
            ([("s", 5, A), ("t", -1, A), ("u", 0, A)], "t"), ([("s", 1, A), ("t", Ratio(1, 10 ** 20), A)], None),
        ):
            with self.assertRaises(InvalidWeight) as held:
                Sketch(seeds)
            self.assertEqual(held.exception.name, name)

    def test_twelve_and_thirteen_seeds(self):
        def seeds(many, note=A):
            return [(f"s{at}", Ratio(1, many), note) for at in range(many)]
        self.assertEqual(len(Sketch(seeds(12))), 12)
        too_many(self, "seeds", 12, lambda: Sketch(seeds(13)))
        too_many(self, "seeds", 12, lambda: Sketch(seeds(13, Note.of_keys(*"abcdefg"))))
        with self.assertRaises(InvalidWeight):
            Sketch(seeds(13)[1:] + [("x", 1, A)])

    def test_six_and_seven_keys(self):
        self.assertEqual(sketch_of([{key: 1 for key in "abcdef"}]).used_keys(), list("abcdef"))
        too_many(self, "keys", 6, lambda: sketch_of([{key: 1 for key in "abcdefg"}]))
        too_many(self, "keys", 6, lambda: sketch_of(Note.of_keys(*"abcd"), Note.of_keys(*"defg")))
        with self.assertRaises(InvalidWeight):
            Sketch([("s", HALF, Note.of_keys(*"abcdefg"))])

    def test_a_key_counts_only_if_it_is_in_the_rows(self):
        sketch = sketch_of([{"a": 1, **{key: 0 for key in "bcdefgh"}}], [{key: 0 for key in "xyz"}])
        self.assertEqual(sketch.used_keys(), ["a"])


class Asking(unittest.TestCase):
    def test_what_is_no_seed(self):
        for value in NO_SEEDS:
            refused(self, UnknownSeed, [value], COIN.weight)
            refused(self, UnknownSeed, [value], COIN.note)
            refused(self, UnknownSeed, [value], lambda seed: COIN.shows(seed, Table()))
            refused(self, UnknownSeed, [value], lambda seed: COIN.shows(seed=seed, table=None))

    def test_shows(self):
        table = Table({"a": 3, "b": 1})
        self.assertEqual([COIN.shows("h", table), COIN.shows(seed="t", table=table)], [(4,), (2,)])
        for wrong in (None, True, 0, {}, {"a": 1}, "a", Odd(), COIN, A):
            refused(self, InvalidTable, [wrong], lambda value: COIN.shows("h", value))

    def test_walk_is_a_generator(self):
        walk = COIN.walk()
        self.assertEqual(next(walk)[0], "h")
        self.assertEqual(next(walk), ("t", HALF, Note([{"a": 1, "b": -1}])))
        with self.assertRaises(StopIteration):
            next(walk)
        self.assertEqual(type(walk).__name__, "generator")

    def test_is_plain(self):
        self.assertIs(COIN.is_plain, False)
        self.assertIs(sample(["a", "b", "c"], 2).is_plain, True)
        self.assertIs(sketch_of([{"a": 1}], [{"a": 1}, {"a": 1}]).is_plain, False)
        self.assertIs(sketch_of([{"a": 1}], [{"a": 1, "b": 1}], []).is_plain, True)

    def test_repr(self):
        expected = "Sketch([('h', Ratio(1, 2), Note([{'a': 1, 'b': 1}])), ('t', Ratio(1, 2), Note([{'a': 1, 'b': -1}]))])"
        self.assertEqual(repr(COIN), expected)
        self.assertEqual(repr(Sketch([("s", 1, EMPTY)])), "Sketch([('s', Ratio(1, 1), Note([]))])")


class Merged(unittest.TestCase):
    def test_the_other_sequence(self):
        one = Sketch([("s", Ratio(1, 3), A), ("t", Ratio(2, 3), B)])
        other = Sketch([("t", Ratio(4, 6), Note.of_keys("c")), ("s", Ratio(1, 3), Note.of_keys("d", "e"))])
        found = walked(one.merged(other))
        self.assertEqual(found, [("s", "1/3", [{"a": 1}, {"d": 1}, {"e": 1}]), ("t", "2/3", [{"b": 1}, {"c": 1}])])
        self.assertEqual(walked(other.merged(other=one)),
                         [("t", "2/3", [{"c": 1}, {"b": 1}]), ("s", "1/3", [{"d": 1}, {"e": 1}, {"a": 1}])])
        self.assertEqual(walked(one), [("s", "1/3", [{"a": 1}]), ("t", "2/3", [{"b": 1}])])

    def test_other_seeds(self):
        one = Sketch([("s", Ratio(1, 3), A), ("t", Ratio(2, 3), B)])
        for seeds, name in (
            ([("s", Ratio(1, 3), A), ("u", Ratio(2, 3), B)], "t"), ([("s", HALF, A), ("t", HALF, B)], "s"),
            ([("t", Ratio(2, 3), A), ("u", Ratio(1, 3), B)], "s"), ([("t", 1, A)], "s"), ([("x", 1, A)], "s"),
            ([("s", Ratio(1, 3), A), ("t", Ratio(1, 3), B), ("u", Ratio(1, 3), B)], "t"),
        ):
            with self.assertRaises(OtherSeeds) as held:
                one.merged(Sketch(seeds))
            self.assertEqual(held.exception.name, name)

    def test_too_many(self):
        five, four = Note([{"a": 1}] * 5), Note([{"b": 1}] * 4)
        self.assertEqual(len(sketch_of(five).merged(sketch_of(four.through([(1, 0, 0, 0)] * 3))).note("s0")), 8)
        too_many(self, "sums", 8, lambda: sketch_of(five).merged(sketch_of(four)))
        too_many(self, "sums", 8, lambda: sketch_of(A, five).merged(sketch_of(A, four)))
        four_keys, other_keys = Note.of_keys(*"abcd"), Note.of_keys(*"efg")
        too_many(self, "keys", 6, lambda: sketch_of(four_keys).merged(sketch_of(other_keys)))
        eight = Note.of_keys(*"efga") + Note([{}])
        too_many(self, "sums", 8, lambda: sketch_of(four_keys).merged(sketch_of(eight)))
        with self.assertRaises(OtherSeeds):
            sketch_of(five).merged(Sketch([("x", 1, four)]))


class Paired(unittest.TestCase):
    def test_written_out(self):
        other = Sketch([("x", Ratio(1, 3), A), ("y", Ratio(2, 3), Note([{"a": 2}, {}]))])
        self.assertEqual(walked(COIN.paired(other)), [
            ("s0", "1/6", [{"a": 1, "b": 1}, {"a": 1}]), ("s1", "1/3", [{"a": 1, "b": 1}, {"a": 2}, {}]),
            ("s2", "1/6", [{"a": 1, "b": -1}, {"a": 1}]), ("s3", "1/3", [{"a": 1, "b": -1}, {"a": 2}, {}]),
        ])
        self.assertEqual(COIN.paired(other=other).seeds(), ["s0", "s1", "s2", "s3"])

    def test_more_than_ten_seeds(self):
        found = sketch_of(A, A, B).paired(sketch_of(A, B, B, EMPTY))
        self.assertEqual(found.seeds(), [f"s{at}" for at in range(12)])
        self.assertEqual(found.note("s11").sums(), [{"b": 1}])
        self.assertEqual(found.note("s8").sums(), [{"b": 1}, {"a": 1}])

    def test_too_many(self):
        too_many(self, "seeds", 12, lambda: sketch_of(A, A, A, A).paired(sketch_of(A, A, A, A)))
        too_many(self, "sums", 8, lambda: sketch_of(A, Note([{}] * 6)).paired(sketch_of(A, Note([{}] * 3))))
        five = sketch_of(*[Note([{"a": 1}] * 5)] * 4)
        too_many(self, "sums", 8, lambda: five.paired(five))
        too_many(self, "keys", 6, lambda: sketch_of(Note.of_keys(*"abcd")).paired(sketch_of(Note.of_keys(*"efg"))))
        four = sketch_of(*[Note.of_keys(*"abcd")] * 4)
        too_many(self, "seeds", 12, lambda: four.paired(four.renamed({"a": "w", "b": "x", "c": "y"})))


class Copies(unittest.TestCase):
    def test_one_is_the_sketch_itself(self):
        self.assertEqual(COIN.copies(1), COIN)
        self.assertEqual(COIN.copies(many=1).seeds(), ["h", "t"])

    def test_two_and_three(self):
        self.assertEqual(COIN.copies(2), COIN.paired(COIN))
        self.assertEqual(COIN.copies(3), COIN.paired(COIN).paired(COIN))
        self.assertEqual(len(COIN.copies(3)), 8)
        self.assertEqual(COIN.copies(3).note("s1").sums(), [{"a": 1, "b": 1}, {"a": 1, "b": 1}, {"a": 1, "b": -1}])
        self.assertEqual(sketch_of(A, B, EMPTY).copies(2), sketch_of(A, B, EMPTY).paired(sketch_of(A, B, EMPTY)))

    def test_a_single_seed(self):
        one = sketch_of(A)
        self.assertEqual(walked(one.copies(8)), [("s0", "1", [{"a": 1}] * 8)])
        empty = Sketch([("x", 1, EMPTY)])
        for many in (2, 9, 10 ** 25):
            self.assertEqual(walked(empty.copies(many)), [("s0", "1", [])])
        self.assertEqual(walked(empty.copies(1)), [("x", "1", [])])

    def test_too_many(self):
        too_many(self, "sums", 8, lambda: sketch_of(A).copies(9))
        too_many(self, "seeds", 12, lambda: COIN.copies(4))
        too_many(self, "sums", 8, lambda: COIN.copies(9))
        too_many(self, "sums", 8, lambda: COIN.copies(10 ** 25))
        too_many(self, "seeds", 12, lambda: sketch_of(EMPTY, EMPTY).copies(10 ** 25))
        four = sketch_of(*[Note([{"a": 1}] * 3)] * 4)
        too_many(self, "seeds", 12, lambda: four.copies(2))
        too_many(self, "sums", 8, lambda: four.copies(3))
        too_many(self, "sums", 8, lambda: sketch_of(EMPTY, Note([{}] * 5)).copies(2))

    def test_what_is_no_count_from_1_on(self):
        refused(self, InvalidCount, NO_INTEGERS + [0, -1, Ratio(1), Ratio(2)], COIN.copies)


class Only(unittest.TestCase):
    def test_the_weights_are_divided_anew(self):
        sketch = Sketch([("s", HALF, A), ("t", Ratio(1, 3), B), ("u", Ratio(1, 6), EMPTY)])
        self.assertEqual(walked(sketch.only(["u", "s"])), [("s", "3/4", [{"a": 1}]), ("u", "1/4", [])])
        self.assertEqual(walked(sketch.only(seeds=("t",))), [("t", "1", [{"b": 1}])])
        self.assertEqual(sketch.only(["u", "t", "s"]), sketch)
        self.assertEqual(sketch.only(["u"]).used_keys(), [])

    def test_wrong_lists(self):
        for value in NO_LISTS:
            self.assertIsNone(position_of(self, InvalidSeeds, lambda: COIN.only(value)))
        for value in ([], ()):
            self.assertEqual(position_of(self, InvalidSeeds, lambda: COIN.only(value)), 0)

    def test_strangers_and_seeds_twice(self):
        for value in NO_SEEDS:
            refused(self, UnknownSeed, [value], lambda seed: COIN.only([seed]))
            refused(self, UnknownSeed, [value], lambda seed: COIN.only(["t", seed, "t", None]))
        self.assertEqual(position_of(self, InvalidSeeds, lambda: COIN.only(["h", "t", "h", "x"])), 2)
        self.assertEqual(position_of(self, InvalidSeeds, lambda: COIN.only(("t", "t"))), 1)


class Through(unittest.TestCase):
    def test_written_out(self):
        sketch = sketch_of([{"a": 1}, {"b": 1}], [{"a": 1, "b": 1}], [])
        rows = {"s2": [(), ()], "s0": [(1, -1)], "s1": ((2,), (0,))}
        self.assertEqual(walked(sketch.through(rows)), [
            ("s0", "1/3", [{"a": 1, "b": -1}]), ("s1", "1/3", [{"a": 2, "b": 2}, {}]), ("s2", "1/3", [{}, {}]),
        ])
        self.assertEqual(sketch.through(rows=rows), sketch.through(dict(sorted(rows.items()))))
        self.assertEqual(list(rows), ["s2", "s0", "s1"])

    def test_missing_and_additional_seeds(self):
        right = {"h": [(1,)], "t": []}
        wrong = NO_LISTS[:6] + [[], {}, {"h": [(1,)]}, {**right, "u": []}, {"h": [], "u": []}, {"h": [], 1: []}, [right]]
        for value in wrong + [{"h": None}, {"h": [], "t": [], None: None}, {"h": [], ("t",): []}]:
            self.assertIsNone(position_of(self, InvalidSeeds, lambda: COIN.through(value)))

    def test_the_errors_of_notes_seed_by_seed(self):
        for rows, position in (
            ({"t": None, "h": [(1, 2)]}, 0), ({"t": [None], "h": None}, None), ({"t": None, "h": [(1,)]}, None),
            ({"h": [(1,)], "t": [(1,), (True,)]}, 1), ({"h": [(1,)], "t": [(1,), [1]]}, 1),
        ):
            self.assertEqual(position_of(self, InvalidSum, lambda: COIN.through(rows)), position)
        too_many(self, "sums", 8, lambda: COIN.through({"h": [(1,)] * 9, "t": None}))
        self.assertIsNone(position_of(self, InvalidSum, lambda: COIN.through({"t": [(1,)] * 9, "h": None})))


class Renamed(unittest.TestCase):
    def test_keys_become_one(self):
        self.assertEqual(walked(COIN.renamed({"b": "a"})), [("h", "1/2", [{"a": 2}]), ("t", "1/2", [{}])])
        self.assertEqual(COIN.renamed(names={"a": "b", "b": "a"}).note("t").sums(), [{"a": -1, "b": 1}])
        self.assertEqual(COIN.renamed({"z": "a"}), COIN)

    def test_wrong_names(self):
        wrong = [None, True, 0, "a", [], [("a", "b")], {"a"}, Odd(), {"a": 1}, {"a": "A"}, {1: "a"}, {"z": None}]
        refused(self, InvalidNames, wrong, COIN.renamed)


class Equality(unittest.TestCase):
    def test_equal(self):
        self.assertTrue(COIN == Sketch([(name, weight, note) for name, weight, note in COIN.walk()]))
        self.assertFalse(COIN != COIN.renamed({}))

    def test_not_equal(self):
        seeds = list(COIN.walk())
        others = [
            Sketch(seeds[::-1]), COIN.only(["h"]), Sketch([("h", Ratio(1, 3), seeds[0][2]), ("t", Ratio(2, 3), seeds[1][2])]),
            Sketch([("h", HALF, seeds[1][2]), ("t", HALF, seeds[0][2])]), COIN.merged(COIN),
            Sketch([("x", HALF, seeds[0][2]), ("t", HALF, seeds[1][2])]),
        ]
        for other in others + [None, 0, "COIN", seeds, {}, EMPTY, Odd()]:
            self.assertFalse(COIN == other)
            self.assertTrue(COIN != other)


class Staying(unittest.TestCase):
    def test_the_sketch_stays_as_it_is(self):
        for chance in cases(1, 20):
            keys = some_keys(chance, 3)
            sketch = some_sketch(chance, keys, 3, 2)
            text = repr(sketch)
            sketch.merged(sketch)
            sketch.paired(sketch)
            sketch.copies(2)
            sketch.only(["s0"])
            sketch.renamed({"a": "b"})
            sketch.through({name: [] for name in sketch.seeds()})
            list(sketch.walk())
            self.assertEqual(repr(sketch), text)

    def test_made_sketches_of_the_tests(self):
        self.assertEqual(walked(signs(["b", "a"])), [("s0", "1/2", [{"a": 1, "b": 1}]), ("s1", "1/2", [{"a": 1, "b": -1}])])
        self.assertEqual(len(sample(list("abcd"), 2)), 6)
        self.assertEqual(asked({"a": Fraction(1, 2)}).weight(("a",)), HALF)

    def test_each_method_is_defined_in_the_class(self):
        names = [
            "__init__", "seeds", "used_keys", "weight", "note", "walk", "shows", "is_plain", "__len__", "merged",
            "paired", "copies", "only", "through", "renamed", "__eq__", "__repr__",
        ]
        for name in names:
            self.assertIn(name, vars(Sketch))
        self.assertIsInstance(vars(Sketch)["is_plain"], property)
        self.assertEqual(Sketch.__module__, "notesums.sketches")


if __name__ == "__main__":
    unittest.main()
