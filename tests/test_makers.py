"""Made sketches: point 12."""

import unittest
from collections import Counter
from fractions import Fraction
from itertools import product

from made import fraction, subsets
from notesums.errors import InvalidCount, InvalidKeys, InvalidSeeds, InvalidWeight
from notesums.makers import buckets, sample, signed_buckets, signs, weighted
from notesums.notes import Note
from notesums.questions import Question
from notesums.ratios import Ratio
from notesums.sketches import Sketch
from notesums.tables import Table
from wrong import NO_INTEGERS, NO_NAMES, Odd, position_of, refused, too_many

COUNTED = (sample, buckets, signed_buckets)
LETTERS = "abcdefghijklmnopqrstuvwxyz"
MANY_KEYS = [f"{one}{two}" for one in LETTERS for two in range(8)][:200]
NO_KEYS = [value for value in NO_NAMES + NO_INTEGERS if not isinstance(value, (list, tuple))] + [
    [], (), ["a", "a"], ("b", "a", "b"), ["a", "B"], ["a", 1], ["a", None], [["a"]], [("a",)], ["a", ""], "ab", {"a"},
    {"a": 1}, [True], ["a", "abcdefghi"], Odd(), Table({"a": 1}), Question(), Note([]),
]
HALF = Ratio(1, 2)


def told(sketch):
    """The weights and sums of a sketch; looks that the seeds are s0, s1, .."""
    assert sketch.seeds() == [f"s{at}" for at in range(len(sketch))], sketch
    return [(fraction(weight), note.sums()) for _, weight, note in sketch.walk()]


def blocks_of(throw):
    """For each key the position of its block, for the buckets into which the keys are thrown."""
    firsts = list(dict.fromkeys(throw))
    return tuple(firsts.index(bucket) for bucket in throw)


def sums_of_blocks(keys, blocks, way):
    """The sums of the blocks, each with its keys and their signs."""
    found = [{} for _ in range(max(blocks) + 1)]
    for key, block, sign in zip(keys, blocks, way):
        found[block][key] = sign
    return found


def all_sets(keys, many):
    """What a sample must be, from all sets of keys."""
    some = sorted(list(names) for names in subsets(keys) if len(names) == many)
    return [(Fraction(1, len(some)), [{key: 1} for key in names]) for names in some]


def all_signs(keys):
    """What signs must be, from all ways to give all keys signs."""
    ways = sorted([way for way in product((-1, 1), repeat=len(keys)) if way[0] == 1], reverse=True)
    return [(Fraction(1, len(ways)), [dict(zip(sorted(keys), way))]) for way in ways]


def all_throws(keys, many):
    """What buckets must be, from all ways to throw the keys."""
    ways = Counter(blocks_of(throw) for throw in product(range(many), repeat=len(keys)))
    ones = [1] * len(keys)
    return [(Fraction(ways[blocks], many ** len(keys)), sums_of_blocks(sorted(keys), blocks, ones))
            for blocks in sorted(ways)]


def all_signed_throws(keys, many):
    """What signed buckets must be: all throws with all signs, those of a block being up to one sign for all of it."""
    ways = Counter()
    for throw in product(range(many), repeat=len(keys)):
        blocks = blocks_of(throw)
        for way in product((-1, 1), repeat=len(keys)):
            first = [way[blocks.index(block)] for block in blocks]
            ways[blocks, tuple(sign * other for sign, other in zip(way, first))] += 1
    every = many ** len(keys) * 2 ** len(keys)
    places = sorted(ways, key=lambda place: (place[0], [-sign for sign in place[1]]))
    return [(Fraction(ways[place], every), sums_of_blocks(sorted(keys), *place)) for place in places]


class ByGoingThroughAll(unittest.TestCase):
    def test_samples(self):
        for length in range(1, 6):
            for many in range(1, length + 1):
                for keys in (list("abcde")[:length], list("edcba")[:length], tuple("caebd")[:length]):
                    self.assertEqual(told(sample(keys, many)), all_sets(keys, many))

    def test_signs(self):
        for length in range(1, 5):
            for keys in (list("abcd")[:length], list("dcba")[:length], ("z", "b2", "b", "a9")[:length]):
                self.assertEqual(told(signs(keys)), all_signs(keys))

    def test_buckets(self):
        for length, counts in ((1, range(1, 6)), (2, range(1, 6)), (3, range(1, 7)), (4, (1, 2)), (5, (1,)), (6, (1,))):
            for many in counts:
                keys = list("fedcba")[:length]
                self.assertEqual(told(buckets(keys, many)), all_throws(keys, many))

    def test_signed_buckets(self):
        for length, counts in ((1, range(1, 6)), (2, range(1, 6)), (3, range(1, 6)), (4, (1,))):
            for many in counts:
                keys = list("cabd")[:length]
                self.assertEqual(told(signed_buckets(keys, many)), all_signed_throws(keys, many))


class WrittenOut(unittest.TestCase):
    def test_the_document(self):
        found = [(name, str(weight), note.sums()) for name, weight, note in signs(["b", "a"]).walk()]
        self.assertEqual(found, [("s0", "1/2", [{"a": 1, "b": 1}]), ("s1", "1/2", [{"a": 1, "b": -1}])])
        found = [(str(weight), note.sums()) for name, weight, note in buckets(["a", "b"], 3).walk()]
        self.assertEqual(found, [("1/3", [{"a": 1, "b": 1}]), ("2/3", [{"a": 1}, {"b": 1}])])

    def test_one_key(self):
        only = Sketch([("s0", 1, Note.of_keys("a"))])
        for found in (sample(["a"], 1), signs(["a"]), buckets(["a"], 1), buckets(["a"], 7), signed_buckets(["a"], 5)):
            self.assertEqual(found, only)

    def test_order_of_partitions(self):
        found = [note.sums() for _, _, note in buckets(["a", "b", "c"], 3).walk()]
        self.assertEqual(found, [
            [{"a": 1, "b": 1, "c": 1}], [{"a": 1, "b": 1}, {"c": 1}], [{"a": 1, "c": 1}, {"b": 1}],
            [{"a": 1}, {"b": 1, "c": 1}], [{"a": 1}, {"b": 1}, {"c": 1}]])

    def test_order_of_signs_in_partitions(self):
        found = [(str(weight), note.sums()) for _, weight, note in signed_buckets(["a", "b"], 2).walk()]
        self.assertEqual(found, [
            ("1/4", [{"a": 1, "b": 1}]), ("1/4", [{"a": 1, "b": -1}]), ("1/2", [{"a": 1}, {"b": 1}])])

    def test_one_bucket(self):
        self.assertEqual(buckets(list("fabecd"), 1).note("s0").sums(), [{key: 1 for key in "abcdef"}])
        self.assertEqual(len(buckets(list("abcdef"), 1)), 1)
        self.assertEqual(signed_buckets(list("abcd"), 1), signs(list("dcab")))

    def test_names_from_ten_on(self):
        found = sample(list("abcde"), 2)
        self.assertEqual(found.seeds(), [f"s{at}" for at in range(10)])
        self.assertEqual(found.note("s9").sums(), [{"d": 1}, {"e": 1}])
        self.assertEqual(signed_buckets(["a", "b", "c"], 3).seeds()[-1], "s10")

    def test_a_great_number_of_buckets(self):
        many = 10 ** 29 + 7
        weights = [fraction(weight) for _, weight, _ in buckets(["a", "b", "c"], many).walk()]
        pairs = Fraction(many - 1, many ** 2)
        self.assertEqual(weights,
                [Fraction(1, many ** 2), pairs, pairs, pairs, Fraction((many - 1) * (many - 2), many ** 2)])
        signed = [fraction(weight) for _, weight, _ in signed_buckets(["a", "b", "c"], many).walk()]
        self.assertEqual(signed[:4], [Fraction(1, 4 * many ** 2)] * 4)
        self.assertEqual(signed[4:10], [pairs / 2] * 6)
        self.assertEqual(signed[10:], weights[4:])

    def test_by_names(self):
        self.assertEqual(sample(many=1, keys=["a", "b"]), sample(["a", "b"], 1))
        self.assertEqual(buckets(keys=("a", "b"), many=2), buckets(["b", "a"], 2))
        self.assertEqual(signed_buckets(keys=("a", "b"), many=2), signed_buckets(["b", "a"], 2))
        self.assertEqual(signs(keys=("a", "b")), signs(["a", "b"]))

    def test_the_list_is_not_changed(self):
        keys = ["b", "a", "c"]
        found = sample(keys, 2)
        keys.append("d")
        self.assertEqual((keys, found.used_keys()), (["b", "a", "c", "d"], ["a", "b", "c"]))
        self.assertEqual(sample(["b", "a", "c"], 2), found)


class Wrong(unittest.TestCase):
    def test_keys(self):
        for make in COUNTED:
            refused(self, InvalidKeys, NO_KEYS, lambda value: make(value, 1))
            refused(self, InvalidKeys, NO_KEYS, lambda value: make(value, None))
        refused(self, InvalidKeys, NO_KEYS, signs)
        refused(self, InvalidKeys, [MANY_KEYS + ["a0"]], signs)

    def test_counts(self):
        for make in COUNTED:
            refused(self, InvalidCount, NO_INTEGERS + [0, -1, -10 ** 25, HALF, Ratio(1)],
                    lambda value: make(["a"], value))
            refused(self, InvalidCount, [0, True], lambda value: make(MANY_KEYS, value))
        refused(self, InvalidCount, [3, 10 ** 25], lambda value: sample(["a", "b"], value))
        refused(self, InvalidCount, [201], lambda value: sample(MANY_KEYS, value))

    def test_too_many_of_samples(self):
        for length, many in ((6, 1), (5, 2), (5, 3), (6, 5), (6, 6), (4, 2)):
            self.assertEqual(len(sample(list(LETTERS[:length]), many).note("s0")), many)
        for length, many in ((6, 2), (6, 4), (13, 1), (9, 2), (13, 8), (200, 1), (200, 7)):
            too_many(self, "seeds", 12, lambda: sample(MANY_KEYS[:length], many))
        for length, many in ((7, 1), (12, 1), (7, 7), (8, 8), (8, 7), (9, 8)):
            too_many(self, "keys", 6, lambda: sample(MANY_KEYS[:length], many))
        for length, many in ((9, 9), (10, 9), (200, 9), (200, 100), (200, 200)):
            too_many(self, "sums", 8, lambda: sample(MANY_KEYS[:length], many))

    def test_too_many_of_signs(self):
        self.assertEqual(len(signs(list("abcd"))), 8)
        for length in (5, 6, 7, 9, 200):
            too_many(self, "seeds", 12, lambda: signs(MANY_KEYS[:length]))

    def test_too_many_of_buckets(self):
        self.assertEqual([len(buckets(list("abcd"), 2)), len(buckets(list("abc"), 10 ** 25))], [8, 5])
        for length, many in ((4, 3), (4, 10 ** 25), (5, 2), (9, 8), (200, 2), (200, 8), (8, 10 ** 25)):
            too_many(self, "seeds", 12, lambda: buckets(MANY_KEYS[:length], many))
        for length in (7, 9, 200):
            too_many(self, "keys", 6, lambda: buckets(MANY_KEYS[:length], 1))
        for length, many in ((9, 9), (9, 10 ** 25), (200, 9)):
            too_many(self, "sums", 8, lambda: buckets(MANY_KEYS[:length], many))

    def test_too_many_of_signed_buckets(self):
        self.assertEqual([len(signed_buckets(list("abc"), many)) for many in (1, 2, 3, 10 ** 25)], [4, 10, 11, 11])
        self.assertEqual(len(signed_buckets(list("abcd"), 1)), 8)
        for length, many in ((4, 2), (4, 10 ** 25), (5, 1), (7, 1), (200, 1), (9, 8), (200, 8)):
            too_many(self, "seeds", 12, lambda: signed_buckets(MANY_KEYS[:length], many))
        for length, many in ((9, 9), (200, 10 ** 25)):
            too_many(self, "sums", 8, lambda: signed_buckets(MANY_KEYS[:length], many))


class Weighted(unittest.TestCase):
    def test_names_are_sorted(self):
        one, two, three = Note.of_keys("a"), Note([]), Note([{"b": 2}])
        found = weighted(one, two, three, z=HALF, b=Ratio(1, 3), a1=Ratio(1, 6))
        self.assertEqual(found, Sketch([("a1", Ratio(1, 6), one), ("b", Ratio(1, 3), two), ("z", HALF, three)]))
        self.assertEqual(weighted(one, x=1), Sketch([("x", 1, one)]))
        names = {"notes": HALF, "weights": HALF}
        self.assertEqual(weighted(one, two, **names), Sketch([("notes", HALF, one), ("weights", HALF, two)]))
        self.assertEqual(weighted(one, two, s10=HALF, s2=HALF).seeds(), ["s10", "s2"])

    def test_wrong_notes(self):
        note = Note.of_keys("a")
        for notes, weights in (((), {}), ((note,), {}), ((), {"a": 1}), ((note, note), {"a": 1}),
                               ((note,), {"a": HALF, "b": HALF}), ((note, note, note), {"A": 1, "b": 0})):
            self.assertIsNone(position_of(self, InvalidSeeds, lambda: weighted(*notes, **weights)))
        for wrong in (None, True, 0, "a", [], {}, [{"a": 1}], Odd(), Table(), Question(), Note):
            self.assertIsNone(position_of(self, InvalidSeeds, lambda: weighted(note, wrong, a=HALF, B=None)))

    def test_the_errors_of_sketches(self):
        note = Note.of_keys("a")
        self.assertEqual(position_of(self, InvalidSeeds, lambda: weighted(note, note, a=HALF, b="1/2")), 1)
        self.assertEqual(position_of(self, InvalidSeeds, lambda: weighted(note, note, a=HALF, b=True)), 1)
        self.assertEqual(position_of(self, InvalidSeeds, lambda: weighted(note, note, a=HALF, B=HALF)), 0)
        for weights, name in (({"a": 0, "b": 1}, "a"), ({"b": -HALF, "a": Ratio(3, 2)}, "b"), ({"a": 1, "b": 1}, None),
                              ({"a": HALF, "b": Ratio(1, 3)}, None)):
            with self.assertRaises(InvalidWeight) as held:
                weighted(note, note, **weights)
            self.assertEqual(held.exception.name, name)

    def test_too_many(self):
        thirteen = {f"s{at}": Ratio(1, 13) for at in range(13)}
        too_many(self, "seeds", 12, lambda: weighted(*[Note([])] * 13, **thirteen))
        too_many(self, "keys", 6, lambda: weighted(Note.of_keys(*"abcdefg"), a=1))
        self.assertEqual(len(weighted(*[Note([])] * 12, **{f"s{at}": Ratio(1, 12) for at in range(12)})), 12)
        with self.assertRaises(InvalidWeight):
            weighted(*[Note.of_keys(*"abcdefg")] * 13, **{f"s{at}": Ratio(1, 12) for at in range(13)})


if __name__ == "__main__":
    unittest.main()
