"""What the document promises over the whole program: point 4, and all functions beside one another."""

import unittest

from made import cases, named, sketch_of, some_keys, some_question, some_sketch, subsets
from notesums.answers import answer_base, answers_as_much, can_answer, failing_degrees, remainder, rule_for, zero_base
from notesums.best import has_least_spread, least_spread
from notesums.boxes import box_rule, is_box_rule
from notesums.copies import copies_rule, copies_twins, is_copies_rule, is_copies_twins, is_unseen, least_copies
from notesums.copies import unseen_base, unseen_pair
from notesums.desk import Desk
from notesums.enough import greatest_sets, is_enough, least_sets, needed_keys, needed_seeds, needed_sums
from notesums.judge import certificate_of, is_certificate
from notesums.kept import Kept
from notesums.lean import lean, least_additions, without_sum
from notesums.makers import buckets, sample, signed_buckets, signs
from notesums.moments import is_moment_twins, moment_twins
from notesums.questions import Question
from notesums.ratios import Ratio
from notesums.rules import is_rule, mean_at, mean_of
from notesums.spreads import spread_over
from notesums.tables import Table
from notesums.texts import read_question, read_rule, read_sketch, rule_text, sketch_text
from notesums.turns import averaged, renamings
from notesums.tying import own, tied, tied_joins, tying_loses
from notesums.twins import exact_twins, failing_size, is_twins

NOTHING = Question()
MADE = [sample(["a", "b"], 1), sample(["a", "b", "c"], 2), signs(["a", "b"]), signs(["a", "b", "c"]),
        buckets(["a", "b"], 2),
        buckets(["a", "b", "c"], 2), signed_buckets(["a", "b"], 2), signed_buckets(["a", "b", "c"], 10 ** 20),
        sketch_of([])]


def pairs(seed, many, keys=3, seeds=4):
    """Some sketches, made ones and others, each with a question."""
    for chance in cases(seed, many):
        some = some_keys(chance, keys)
        sketch = chance.choice(MADE) if chance.random() < 0.3 else some_sketch(chance, some, seeds, 2)
        known = sketch.used_keys() or some
        question = some_question(chance, known + ["y"] if chance.random() < 0.1 else known, 2, 3)
        if chance.random() < 0.4:
            rows = [row for _, _, note in sketch.walk() for row in note.questions()] + [Question.constant(2)]
            question = chance.choice(rows) * chance.choice(rows) - chance.choice(rows)
        yield sketch, question


def asked(sketch, question):
    """What all functions tell of a pair, those that need not return the same for all programs as well."""
    return [
        can_answer(sketch, question), rule_for(sketch, question), failing_degrees(sketch, question),
        answer_base(sketch, 2),
        remainder(sketch, question), zero_base(sketch, 1), moment_twins(sketch, question),
        least_copies(sketch, question),
        copies_rule(sketch, question, 2), copies_twins(sketch, question, 1), unseen_base(sketch),
        unseen_pair(sketch, question),
        least_sets(sketch, question), greatest_sets(sketch, question), needed_seeds(sketch, question),
        needed_sums(sketch, question),
        needed_keys(sketch, question), lean(sketch, [question]), box_rule(sketch, question, {"a": 1}),
        renamings(sketch),
        exact_twins(sketch, question, box={"a": 1, "b": 1}), sketch_text(sketch), str(question), repr(sketch),
        repr(question),
        certificate_of(("answered", sketch, question)), certificate_of(("more copies", sketch, question, 1)),
        averaged(question, renamings(sketch)), least_additions(sketch, question, [{"a": 1}]),
    ]


def spoil(value):
    """Changes a list or dict that was returned, also inside."""
    if isinstance(value, (list, tuple)):
        for part in value:
            spoil(part)
    if isinstance(value, dict):
        for part in value.values():
            spoil(part)
    if isinstance(value, (list, dict)):
        value.clear()


class Guarantees(unittest.TestCase):
    def test_a_rule_or_twins(self):
        for sketch, question in pairs(1, 120):
            rule, twins = rule_for(sketch, question), moment_twins(sketch, question)
            answered = can_answer(sketch, question)
            self.assertIs(rule is not None, answered)
            self.assertIs(twins is None, answered)
            self.assertIs(remainder(sketch, question) == NOTHING, answered)
            self.assertIs(failing_degrees(sketch, question) == [], answered)
            self.assertIs(all(can_answer(sketch, part) for part in question.parts().values()), answered)
            if answered:
                self.assertTrue(is_rule(sketch, question, rule))
                self.assertEqual(mean_of(sketch, rule), question)
                self.assertLessEqual(rule.degree, max(question.degree, -1))
            else:
                self.assertTrue(is_moment_twins(sketch, question, twins))

    def test_no_rule_means_twins_on_some_box(self):
        for sketch, question in pairs(2, 80, keys=2):
            if len(sketch.used_keys() + question.used_keys()) == 0:
                continue
            keys = sorted(set(sketch.used_keys() + question.used_keys()))
            size = failing_size(sketch, question, limit={1: 8, 2: 6, 3: 3}[len(keys)])
            if can_answer(sketch, question):
                self.assertIsNone(size)
            elif sketch.is_plain:
                self.assertTrue(is_twins(sketch, question, exact_twins(sketch, question)))
                self.assertLessEqual(size, question.degree)
            elif len(keys) < 3:
                self.assertIsNotNone(size, (sketch, question))

    def test_every_box(self):
        for sketch, question in pairs(3, 60):
            for box in ({}, {"a": 2}, {"a": 1, "b": 1}, {"a": 1, "b": 2, "c": 1}):
                rule, twins = box_rule(sketch, question, box), exact_twins(sketch, question, box=box)
                self.assertNotEqual(rule is None, twins is None)
                if rule is None:
                    self.assertTrue(is_twins(sketch, question, twins))
                    self.assertFalse(can_answer(sketch, question))
                else:
                    self.assertTrue(is_box_rule(sketch, question, box, rule))

    def test_copies(self):
        for sketch, question in pairs(4, 80):
            if len(sketch) > 6:
                continue
            least = least_copies(sketch, question)
            change = unseen_pair(sketch, question)
            self.assertIs(least is None, change is not None)
            if change is not None:
                self.assertTrue(is_unseen(sketch, change[1] - change[0]))
                self.assertNotEqual(question.at(change[0]), question.at(change[1]))
                continue
            self.assertTrue(is_copies_rule(sketch, question, least, copies_rule(sketch, question, least)))
            if least > 0:
                self.assertTrue(is_copies_twins(sketch, question, least - 1, copies_twins(sketch, question, least - 1)))
            self.assertIs(least <= 1, can_answer(sketch, question))

    def test_enough(self):
        for sketch, question in pairs(5, 60):
            if len(sketch) > 8:
                continue
            least, greatest = least_sets(sketch, question), greatest_sets(sketch, question)
            for seeds in subsets(sketch.seeds()):
                enough = is_enough(sketch, question, seeds)
                self.assertIs(any(set(one) <= set(seeds) for one in least), enough)
                self.assertIs(any(set(seeds) <= set(other) for other in greatest), not enough)
                self.assertIs(certificate_of(("enough", sketch, question, seeds)) is not None, enough)
            self.assertIs(least != [], can_answer(sketch, question))
            every = [seed for seed in sorted(sketch.seeds()) if least and all(seed in one for one in least)]
            self.assertEqual(needed_seeds(sketch, question), every)
            for seed, position in needed_sums(sketch, question):
                self.assertFalse(can_answer(without_sum(sketch, seed, position), question))
            leaner = lean(sketch, [question])
            if can_answer(sketch, question):
                self.assertEqual(len(needed_sums(leaner, question)), sum(len(note) for _, _, note in leaner.walk()))
                self.assertTrue(answers_as_much(sketch, leaner))

    def test_least_spread(self):
        for sketch, question in pairs(6, 40, seeds=3):
            if not can_answer(sketch, question) or len(sketch) > 6:
                continue
            tables = [(Table({"a": 1}), 1), (Table({"b": 2, "a": -1}), Ratio(1, 3))]
            least, rule = least_spread(sketch, question, tables, 2)
            self.assertTrue(is_rule(sketch, question, rule) and has_least_spread(sketch, rule, tables, 2))
            self.assertEqual(spread_over(sketch, rule, tables), least)
            other = rule_for(sketch, question)
            self.assertFalse(spread_over(sketch, other, tables).is_below(least))
            self.assertEqual(spread_over(sketch, other, tables) == least, has_least_spread(sketch, other, tables, 2))
            for zero in zero_base(sketch, 1):
                self.assertFalse(spread_over(sketch, rule + zero, tables).is_below(least))
                self.assertTrue(is_rule(sketch, question, rule + zero))

    def test_one_form(self):
        for sketch, question in pairs(7, 60):
            for chance in cases(8, 3):
                other = some_question(chance, sketch.used_keys() or ["a"], 2, 3)
                self.assertIs(remainder(sketch, question) == remainder(sketch, other),
                        can_answer(sketch, question - other))
            left = remainder(sketch, question)
            self.assertTrue(can_answer(sketch, question - left))
            self.assertEqual(remainder(sketch, left), left)
            for degree in (0, 1, 2):
                for answered in answer_base(sketch, degree):
                    self.assertTrue(can_answer(sketch, answered))
                    self.assertEqual(remainder(sketch, question + answered), left)

    def test_checked(self):
        for sketch, question in pairs(9, 40):
            claims = [("answered", sketch, question), ("not answered", sketch, question),
                    ("on the box", sketch, question, {"a": 2}),
                      ("not on the box", sketch, question, {"a": 2})]
            if len(sketch) <= 6:
                claims += [("by copies", sketch, question, 1), ("more copies", sketch, question, 1)]
            found = [certificate_of(claim) for claim in claims]
            for at in range(0, len(claims), 2):
                self.assertNotEqual(found[at] is None, found[at + 1] is None)
                for claim, value in zip(claims[at:at + 2], found[at:at + 2]):
                    self.assertIs(is_certificate(claim, value), value is not None)


class BesideOneAnother(unittest.TestCase):
    def test_kept_notes_and_rules(self):
        for sketch, question in pairs(10, 50):
            rule = rule_for(sketch, question)
            if rule is None:
                continue
            for chance in cases(11, 2):
                table = Table({key: chance.randint(-5, 5) for key in "abcy"})
                kept = Kept.of_table(sketch, table)
                for one in kept:
                    one.use(read_rule(rule_text(rule)))
                self.assertEqual(Kept.average(kept), question.at(table))
                self.assertEqual(mean_at(sketch, rule, table), question.at(table))

    def test_texts_and_desks(self):
        for chance in cases(12, 40):
            made = chance.choice(["sample 1 a b", "sample 2 a b c", "signs a b", "signs b c a", "buckets 2 a b",
                    "signed 3 a b"])
            word, *rest = made.split(" ")
            make = {"sample": sample, "signs": signs, "buckets": buckets, "signed": signed_buckets}[word]
            sketch = make(rest) if word == "signs" else make(rest[1:], int(rest[0]))
            question = some_question(chance, ["a", "b", "c"], 2, 3)
            table = Table({key: chance.randint(0, 4) for key in "abc"})
            desk = Desk()
            entries = ", ".join(f"{key}: {number}" for key, number in table.counts().items())
            desk.do_all([f"sketch s {made}", f"question q {question}", f"table t {{{entries}}}"])
            self.assertEqual(desk.do("can s q"), "yes" if can_answer(sketch, question) else "no")
            self.assertEqual(desk.do("copies s q"), str(least_copies(sketch, question)).replace("None", "never"))
            self.assertEqual(desk.do("remainder s q"), str(remainder(sketch, question)))
            self.assertEqual(desk.do("sets s q"),
                    " ".join("+".join(seeds) for seeds in least_sets(sketch, question)) or "none")
            self.assertEqual(desk.do("value q t"), str(question.at(table)))
            self.assertEqual(desk.do("shows s s0 t"), ", ".join(map(str, sketch.shows("s0", table))))
            rule = desk.do("rule s q")
            self.assertIs(rule == "none", not can_answer(sketch, question))
            if rule != "none":
                self.assertTrue(is_rule(sketch, question, read_rule(rule)))

    def test_what_is_read_answers_the_same(self):
        for sketch, question in pairs(13, 30):
            other, same = read_sketch(sketch_text(sketch)), read_question(str(question))
            self.assertEqual((other, same), (sketch, question))
            if len(sketch) <= 6:
                self.assertEqual(asked(other, same), asked(sketch, question))

    def test_tied_sketches(self):
        for sketch, _ in pairs(14, 30, seeds=3):
            if len(sketch) > 3:
                continue
            names = {key: f"{key}{key}" for key in sketch.used_keys()}
            joins = [Question([(1, [one, names[other]])]) for one in names for other in names]
            together, apart = tied(sketch, names), own(sketch, names)
            for join in joins:
                self.assertIs(can_answer(together, join), not tied_joins(sketch, names) == [] and
                              remainder(together, join) == NOTHING)
            # The answered joins and what is lost by tying make all joins that own seeds answer.
            many = len(tied_joins(sketch, names)) + len(tying_loses(sketch, names))
            rows = len(unseen_base(sketch))
            self.assertEqual(many, (len(names) - rows) ** 2)
            self.assertTrue(answers_as_much(apart, together))

    def test_each_made_sketch(self):
        a, b = named("ab")
        for sketch in MADE[:-1]:
            self.assertEqual(read_sketch(sketch_text(sketch)), sketch)
            self.assertTrue(can_answer(sketch, a + b * 2))
            self.assertEqual(renamings(sketch)[0], {key: key for key in sketch.used_keys()})
            self.assertEqual(len(renamings(sketch)), {2: 2, 3: 6}[len(sketch.used_keys())])


class AskedAgain(unittest.TestCase):
    def test_the_same_pair_and_another_one_by_turns(self):
        before = [(sketch, question, asked(sketch, question)) for sketch, question in pairs(15, 20) if len(sketch) <= 6]
        for sketch, question, told in before + before[::-1]:
            again = asked(sketch, question)
            self.assertEqual(again, told)
            spoil(again)
        for sketch, question, told in before:
            self.assertEqual(asked(sketch, question), told)

    def test_equal_objects_do_not_touch_one_another(self):
        for sketch, question in pairs(16, 10):
            other = read_sketch(sketch_text(sketch))
            if len(sketch) > 6:
                continue
            told = asked(other, question)
            spoil(asked(sketch, question))
            sketch.used_keys().clear()
            sketch.seeds().clear()
            for _, _, note in sketch.walk():
                spoil(note.sums())
                spoil(note.questions())
            spoil(question.terms())
            spoil(question.parts())
            self.assertEqual(asked(other, question), told)
            self.assertEqual(asked(sketch, question), told)


if __name__ == "__main__":
    unittest.main()
