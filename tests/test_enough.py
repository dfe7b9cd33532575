"""What is enough and what is needed: points 27 to 29."""

import unittest

from made import cases, is_answered, named, sketch_of, some_keys, some_question, some_sketch, subsets, sums_of
from notesums.answers import can_answer
from notesums.enough import greatest_sets, is_enough, least_sets, needed_keys, needed_seeds, needed_sums
from notesums.errors import InvalidSeeds, UnknownSeed
from notesums.makers import sample, signs
from notesums.notes import Note
from notesums.questions import Question
from notesums.ratios import Ratio
from notesums.sketches import Sketch
from wrong import NO_NAMES, Odd, position_of, refused, too_many

NOTHING, ONE = Question(), Question.constant(1)
A, B, C = named("abc")
COIN, APART = signs(["a", "b"]), sample(["a", "b"], 1)
ALL = (least_sets, greatest_sets, needed_seeds, needed_sums, needed_keys)


def is_answered_by(sketch, seeds, question):
    """Whether the notes of some seeds answer a question."""
    return is_answered([sums_of(sketch.note(seed)) for seed in seeds], question)


def enough_sets(sketch, question):
    """All sets that are enough, in order."""
    return [seeds for seeds in subsets(sketch.seeds()) if is_answered_by(sketch, seeds, question)]


def is_answered_without(sketch, question, is_left_out):
    """Whether the sums that are not left out, by (seed, position, sum), answer a question."""
    notes = []
    for seed in sketch.seeds():
        sums = sums_of(sketch.note(seed))
        notes.append([row for at, row in enumerate(sums) if not is_left_out(seed, at, row)])
    return is_answered(notes, question)


def shuffled(chance, sketch):
    """The sketch with other names for its seeds, out of order."""
    names = chance.sample(["z", "s10", "s2", "b", "a9", "m"], len(sketch))
    return Sketch([(name, weight, note) for name, (_, weight, note) in zip(names, sketch.walk())])


def pairs(seed, many=80):
    """Some sketches and questions, some of which have keys that the sketch lacks."""
    for chance in cases(seed, many):
        keys = some_keys(chance, 3)
        sketch = shuffled(chance, some_sketch(chance, keys, 5, 2))
        question = some_question(chance, keys + ["d"] if chance.random() < 0.1 else keys, 2, 3)
        if chance.random() < 0.5:
            # Questions out of the sums of the notes, so that more of them can be answered.
            rows = [row for _, _, note in sketch.walk() for row in note.questions()] + [ONE]
            question = chance.choice(rows) * chance.choice(rows) - chance.choice(rows)
        yield sketch, question


class Enough(unittest.TestCase):
    def test_written_out(self):
        self.assertIs(is_enough(APART, A, ["s0"]), True)
        self.assertIs(is_enough(APART, A, ["s1"]), False)
        self.assertIs(is_enough(APART, A + B, ("s1", "s0")), True)
        self.assertIs(is_enough(COIN, A * B, ["s1"]), False)
        self.assertIs(is_enough(seeds=["s1", "s0"], question=A * B, sketch=COIN), True)
        self.assertIs(is_enough(COIN, C, ["s1", "s0"]), False)
        self.assertIs(is_enough(COIN, NOTHING, ["s1"]), True)

    def test_each_set_of_seeds(self):
        for sketch, question in pairs(1):
            for seeds in subsets(sketch.seeds()):
                expected = is_answered_by(sketch, seeds, question)
                self.assertIs(is_enough(sketch, question, list(seeds[::-1])), expected)
                self.assertIs(can_answer(sketch.only(seeds), question), expected)

    def test_wrong_seeds(self):
        for value in (None, True, 0, "s0", {"s0": 1}, {"s0"}, Odd(), COIN):
            self.assertIsNone(position_of(self, InvalidSeeds, lambda: is_enough(COIN, A, value)))
        for value in ([], ()):
            self.assertEqual(position_of(self, InvalidSeeds, lambda: is_enough(COIN, A, value)), 0)
        self.assertEqual(position_of(self, InvalidSeeds, lambda: is_enough(COIN, A, ["s0", "s1", "s0", "x"])), 2)
        refused(self, UnknownSeed, NO_NAMES + ["s2", Ratio(1)], lambda value: is_enough(COIN, A, ["s1", value, "s1"]))
        with self.assertRaises(UnknownSeed):
            is_enough(COIN, A.power(5), ["x"])


class Sets(unittest.TestCase):
    def test_written_out(self):
        self.assertEqual(least_sets(APART, A), [("s0",)])
        self.assertEqual(greatest_sets(APART, A), [("s1",)])
        self.assertEqual(least_sets(APART, A + B), [("s0", "s1")])
        self.assertEqual(greatest_sets(APART, A + B), [("s0",), ("s1",)])
        three = sketch_of([{"a": 1}], [{"b": 1}], [{"a": 1}, {"b": 1}])
        self.assertEqual(least_sets(three, A - B), [("s2",), ("s0", "s1")])
        self.assertEqual(greatest_sets(three, A - B), [("s0",), ("s1",)])
        self.assertEqual(least_sets(question=A * B, sketch=three), [("s2",)])
        self.assertEqual(greatest_sets(question=A * B, sketch=three), [("s0", "s1")])

    def test_order(self):
        notes = [("s10", Ratio(1, 4)), ("b", Ratio(1, 4)), ("s9", Ratio(1, 4)), ("a", Ratio(1, 4))]
        sketch = Sketch([(name, weight, Note([{"a": 1, "b": at}])) for at, (name, weight) in enumerate(notes)])
        self.assertEqual(least_sets(sketch, A), [("s10",), ("a", "b"), ("a", "s9"), ("b", "s9")])
        self.assertEqual(greatest_sets(sketch, A), [("a",), ("b",), ("s9",)])

    def test_against_all_sets(self):
        for sketch, question in pairs(2):
            every, enough = subsets(sketch.seeds()), enough_sets(sketch, question)
            least = [seeds for seeds in enough if not any(set(less) < set(seeds) for less in enough)]
            missing = [seeds for seeds in every if seeds not in enough]
            greatest = [seeds for seeds in missing if not any(set(seeds) < set(more) for more in missing)]
            self.assertEqual(least_sets(sketch, question), least)
            self.assertEqual(greatest_sets(sketch, question), greatest)
            for one in least_sets(sketch, question):
                for other in greatest_sets(sketch, question):
                    self.assertTrue(set(one) - set(other))

    def test_what_cannot_be_answered(self):
        for question in (A * A, C, A * B * B, A * B + C):
            self.assertEqual((least_sets(COIN, question), greatest_sets(COIN, question)), ([], [("s0", "s1")]))

    def test_what_needs_nothing(self):
        for question in (NOTHING, ONE, ONE * Ratio(-1, 3)):
            self.assertEqual((least_sets(COIN, question), greatest_sets(COIN, question)), ([("s0",), ("s1",)], []))
            self.assertEqual((least_sets(sketch_of([]), question), greatest_sets(sketch_of([]), question)),
                    ([("s0",)], []))

    def test_weights_have_no_part(self):
        other = sketch_of(*[note for _, _, note in COIN.walk()], weights=[Ratio(1, 9), Ratio(8, 9)])
        self.assertEqual(least_sets(other, A * B), least_sets(COIN, A * B))

    def test_eight_seeds(self):
        notes = [[{"a": 1, "b": at}] for at in range(8)]
        self.assertEqual(least_sets(sketch_of(*notes), A * B)[:2], [("s0", "s1", "s2"), ("s0", "s1", "s3")])
        self.assertEqual(len(least_sets(sketch_of(*notes), A * B)), 56)
        self.assertEqual(len(greatest_sets(sketch_of(*notes), A * B)), 28)
        self.assertEqual(greatest_sets(sketch_of(*notes), C), [tuple(f"s{at}" for at in range(8))])

    def test_what_is_returned_may_be_changed(self):
        for function in (least_sets, greatest_sets, needed_seeds, needed_sums):
            found = function(APART, A + B)
            kept = list(found)
            found.clear()
            self.assertEqual(function(APART, A + B), kept)
            self.assertTrue(kept)


class Needed(unittest.TestCase):
    def test_written_out(self):
        three = sketch_of([{"a": 1}], [{"b": 1}, {"a": 1}], [{"a": 1}, {"b": 1}])
        self.assertEqual(needed_seeds(APART, A), ["s0"])
        self.assertEqual(needed_seeds(three, A * B), [])
        self.assertEqual(needed_sums(three, A * B), [])
        self.assertEqual(needed_keys(three, A * B), ["a", "b"])
        self.assertEqual(needed_seeds(question=A * B, sketch=three.only(["s2", "s0"])), ["s2"])
        self.assertEqual(needed_sums(question=A * B, sketch=three.only(["s2", "s0"])), [("s2", 0), ("s2", 1)])
        self.assertEqual(needed_keys(question=A, sketch=APART), ["a"])
        self.assertEqual(needed_sums(COIN, A), [("s0", 0), ("s1", 0)])

    def test_a_key_in_a_sum_that_is_not_asked_for(self):
        # Without the sums of b nothing of a is left, although a question of a does not have b.
        self.assertEqual(needed_keys(COIN, A), ["a", "b"])
        self.assertEqual(needed_keys(sketch_of([{"a": 1, "b": 1}, {"b": 1}]), A), ["a", "b"])
        self.assertEqual(needed_keys(sketch_of([{"a": 1, "b": 0}, {"b": 1}]), A), ["a"])

    def test_sequences(self):
        sketch = Sketch([("z", Ratio(1, 2), Note.of_keys("c", "b")), ("a", Ratio(1, 2), Note([{}, {"a": 1}]))])
        question = A + B + C
        self.assertEqual(needed_seeds(sketch, question), ["a", "z"])
        self.assertEqual(needed_sums(sketch, question), [("z", 0), ("z", 1), ("a", 1)])
        self.assertEqual(needed_keys(sketch, question), ["a", "b", "c"])

    def test_against_leaving_out(self):
        for sketch, question in pairs(3, 120):
            if not is_answered_by(sketch, sketch.seeds(), question):
                self.assertEqual([function(sketch, question) for function in ALL[2:]], [[], [], []])
                continue
            enough = enough_sets(sketch, question)
            seeds = [seed for seed in sorted(sketch.seeds()) if all(seed in some for some in enough)]
            self.assertEqual(needed_seeds(sketch, question), seeds)
            places = [(seed, at) for seed, _, note in sketch.walk() for at in range(len(note))]
            sums = [place for place in places
                    if not is_answered_without(sketch, question, lambda seed, at, _: (seed, at) == place)]
            self.assertEqual(needed_sums(sketch, question), sums)
            keys = [key for key in sketch.used_keys()
                    if not is_answered_without(sketch, question, lambda seed, at, row: (key,) in row)]
            self.assertEqual(needed_keys(sketch, question), keys)

    def test_the_only_seed(self):
        for question in (NOTHING, ONE, A, A * A):
            self.assertEqual(needed_seeds(sketch_of([{"a": 1}]), question), ["s0"])
        self.assertEqual(needed_seeds(sketch_of([{"a": 1}]), B), [])
        self.assertEqual(needed_seeds(sketch_of([]), ONE), ["s0"])
        self.assertEqual(needed_sums(sketch_of([{"a": 1}]), ONE), [])
        self.assertEqual(needed_keys(sketch_of([{"a": 1}]), NOTHING), [])

    def test_what_needs_nothing(self):
        for question in (NOTHING, ONE):
            self.assertEqual([function(COIN, question) for function in ALL[2:]], [[], [], []])

    def test_sums_that_come_from_others(self):
        sketch = sketch_of([{"a": 1}, {"a": 2}, {"b": 1}], [{}])
        self.assertEqual(needed_sums(sketch, A * B), [("s0", 2)])
        self.assertEqual(needed_seeds(sketch, A * B), ["s0"])
        self.assertEqual(needed_keys(sketch, A * B), ["a", "b"])

    def test_twelve_seeds(self):
        notes = [[{"a": 1, "b": at}, {"c": 1}] for at in range(11)]
        sketch = sketch_of(*notes, [{"d": 1}])
        question = Question.of_key("d") * C + A * C
        self.assertEqual([function(sketch, question) for function in ALL[2:]], [[], [], []])
        question = Question.of_key("d") + A * C
        self.assertEqual(needed_seeds(sketch, question), ["s11"])
        self.assertEqual(needed_sums(sketch, question), [("s11", 0)])
        self.assertEqual(needed_keys(sketch, question), ["a", "c", "d"])


class Limits(unittest.TestCase):
    def calls(self, sketch):
        """All functions of the file, with an own sketch."""
        return [lambda question, f=function: f(sketch, question) for function in ALL] + [
            lambda question: is_enough(sketch, question, ["s0"])]

    def test_keys(self):
        keys = named("abcdefg")
        for call in self.calls(sample(list("abcd"), 4)):
            call(sum(keys[3:6], NOTHING))
            too_many(self, "keys", 6, lambda: call(sum(keys[4:], NOTHING)))
            too_many(self, "keys", 6, lambda: call(sum(keys[4:], NOTHING) + A.power(5)))

    def test_keys_of_all_seeds_count(self):
        # The only seed that is asked for has a single key, but the sketch has six.
        too_many(self, "keys", 6, lambda: is_enough(sample(list("abcdef"), 1), Question.of_key("g"), ["s0"]))
        too_many(self, "products", 60, lambda: is_enough(sample(list("abcde"), 1), A.power(4), ["s0"]))

    def test_degrees_and_products(self):
        for call in self.calls(COIN):
            call(A.power(4))
            too_many(self, "degree", 4, lambda: call(A.power(5)))
        for call in self.calls(sample(list("abcde"), 4)):
            call(A.power(3))
            too_many(self, "products", 60, lambda: call(A.power(4)))
            too_many(self, "degree", 4, lambda: call(A.power(5)))

    def test_nine_seeds(self):
        eight, nine = sketch_of(*[[{"a": 1}]] * 8), sketch_of(*[[{"a": 1}]] * 9)
        self.assertEqual(least_sets(eight, A), [(f"s{at}",) for at in range(8)])
        self.assertEqual(greatest_sets(eight, A), [])
        for function in (least_sets, greatest_sets):
            for question in (A, NOTHING, B):
                too_many(self, "seeds", 8, lambda: function(nine, question))
            too_many(self, "degree", 4, lambda: function(nine, A.power(5)))
            too_many(self, "products", 60, lambda: function(nine, A.power(4) + sum(named("bcde"), NOTHING)))
            too_many(self, "keys", 6, lambda: function(nine, sum(named("bcdefg"), NOTHING)))
        self.assertEqual((needed_seeds(nine, A), needed_sums(nine, A), needed_keys(nine, A)), ([], [], ["a"]))
        self.assertIs(is_enough(nine, A, ["s8"]), True)


class Listed(unittest.TestCase):
    def test_kinds(self):
        self.assertEqual([type(function(APART, A)) for function in ALL], [list] * 5)
        self.assertEqual([type(seeds) for seeds in least_sets(APART, A) + greatest_sets(APART, A)], [tuple] * 2)


if __name__ == "__main__":
    unittest.main()
