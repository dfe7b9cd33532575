"""Claims and certificates: point 38, and CHECKED of point 4."""

import unittest

from made import cases, is_answered, named, notes_of, sketch_of, some_keys, some_question, some_sketch, subsets, sums_of
from notesums.answers import answers_as_much, can_answer, rule_for, zero_base
from notesums.best import least_spread
from notesums.boxes import box_rule
from notesums.copies import copies_rule, least_copies
from notesums.enough import is_enough
from notesums.errors import InvalidClaim, NotAnswered
from notesums.judge import KINDS, certificate_of, is_certificate, is_claim
from notesums.makers import buckets, sample, signs
from notesums.moments import moment_twins
from notesums.notes import Note
from notesums.questions import Question
from notesums.ratios import Ratio
from notesums.rules import Rule, is_rule
from notesums.sketches import Sketch
from notesums.tables import Table
from notesums.twins import exact_twins
from wrong import NO_INTEGERS, NO_NAMES, Odd, refused

NOTHING = Question()
A, B, C, P = named(["a", "b", "c", "p0"])
COIN, APART = signs(["a", "b"]), sample(["a", "b"], 1)
OPPOSITES = {"answered": "not answered", "on the box": "not on the box", "by copies": "more copies",
        "enough": "not enough"}
BOX = {"a": 1, "b": 1}
TABLES = [(Table({"a": 1}), 1), (Table({"b": 1}), Ratio(1, 2))]
LEAST = least_spread(APART, A + B, TABLES, 1)[0]
CLAIMS = [
    ("answered", COIN, A * B), ("not answered", COIN, A * A), ("on the box", APART, A * B, {"a": 1}),
    ("not on the box", APART, A * B, BOX), ("by copies", APART, A * B, 2), ("more copies", APART, A * B, 1),
    ("enough", APART, A, ("s0",)), ("not enough", APART, A, ("s1",)),
    ("least spread", APART, A + B, TABLES, 1, LEAST), ("as much", sample(["a", "b"], 2), COIN),
]
STRANGE = [None, True, 0, 1, "", "s0", "answered", [], (), (1,), ("s0",), ({}, {}), ([], []), {}, {"s0": A}, {(): A},
        {1: 2}, Odd(),
           COIN, A, Table(), Note([]), Ratio(1), Rule({}), Rule({"zz": P}), ([(Table(), 1)], []), str]


class Claims(unittest.TestCase):
    def test_kinds(self):
        self.assertEqual(KINDS, tuple(claim[0] for claim in CLAIMS))
        self.assertIs(type(KINDS), tuple)

    def test_claims(self):
        for claim in CLAIMS:
            self.assertIs(is_claim(claim), True, claim[0])
            self.assertIs(is_claim(value=claim), True)
        for claim in (("on the box", COIN, NOTHING, {}), ("by copies", COIN, C, 0), ("more copies", COIN, C, 10 ** 25),
                      ("enough", COIN, C, ("s0", "s1")), ("as much", COIN, COIN),
                      ("not on the box", COIN, C, {"z": 80}),
                      ("least spread", COIN, C, tuple(TABLES), 0, Ratio(-5)),
                      ("least spread", COIN, A, [(Table({"a": -1}), 1), (Table({"a": -1}), 1)], 2, Ratio(0))):
            self.assertIs(is_claim(claim), True, claim)

    def wrong(self, claims):
        for claim in claims:
            self.assertIs(is_claim(claim), False, claim)
        refused(self, InvalidClaim, claims, certificate_of)
        refused(self, InvalidClaim, claims, lambda value: is_certificate(value, None))
        refused(self, InvalidClaim, claims, lambda value: is_certificate(value, Rule({"s0": P * P, "s1": P})))

    def test_other_kinds_of_values(self):
        self.wrong([value for value in STRANGE + NO_INTEGERS + NO_NAMES])
        for claim in CLAIMS:
            self.wrong([list(claim), {claim[0]: claim[1:]}, str(claim[0])])

    def test_other_first_words(self):
        for word in ("", "Answered", "answered ", "not", "box", "more", "least", "as much as", "answers", None, True, 0,
                1, [], ("answered",),
                     {"answered"}, Odd(), COIN, A):
            self.wrong([(word, COIN, A), (word, COIN, A, 1), (word, COIN, COIN), (word, COIN, A, BOX), (word,)])

    def test_other_lengths(self):
        for claim in CLAIMS:
            self.wrong([claim[:length] for length in range(1, len(claim))])
            self.wrong([(*claim, None), (*claim, 1), (*claim, claim[-1]), (claim[0], *claim)])

    def test_other_parts(self):
        for claim in CLAIMS:
            others = [None, True, 1, "s0", [], {}, Odd(), Table(), Note([]), Rule({}), Sketch]
            self.wrong([(claim[0], other, *claim[2:]) for other in others + [A]])
            self.wrong([(claim[0], claim[1], other, *claim[3:]) for other in others + [(A,)]])
        self.wrong([("answered", A, COIN), ("as much", COIN, A), ("answered", COIN, COIN), ("answered", COIN, 1)])

    def test_boxes(self):
        boxes = [None, True, 1, "a", [], [("a", 1)], ("a",), Odd(), Table({"a": 1}), {"a": -1}, {"a": True},
                {"a": None}, {"A": 1}, {1: 1}, {"a": Ratio(1)}]
        for box in boxes:
            self.wrong([("on the box", COIN, A, box), ("not on the box", COIN, A, box)])

    def test_counts(self):
        for many in NO_INTEGERS + [-1, Ratio(1), -10 ** 25]:
            self.wrong([("by copies", COIN, A, many), ("more copies", COIN, A, many),
                        ("least spread", APART, A + B, TABLES, many, LEAST)])

    def test_sets_of_seeds(self):
        sets = [(), [], ["s0"], ("s1", "s0"), ("s0", "s0"), ("s0", "s2"), ("x",), "s0", {"s0"}, {"s0": 1}, None, 0,
                ("s0", 1), ("s0", None),
                (("s0",),), (True,), ("s0", "s1", "s1"), Odd()]
        for seeds in sets:
            self.wrong([("enough", COIN, A, seeds), ("not enough", COIN, A, seeds)])

    def test_tables_and_values(self):
        tables = [None, True, 1, "a", {}, [], (), Table(), [Table()], [(Table(), 0)], [(Table(), -1)],
                [(Table(), Ratio(-1, 2))], [(Table(), True)],
                  [(Table(),)], [[Table(), 1]], [({"a": 1}, 1)], TABLES + [None], [(Table(), 1, 1)], [(1, Table())],
                  {Odd: 1}]
        self.wrong([("least spread", APART, A + B, wrong, 1, LEAST) for wrong in tables])
        values = [None, True, 2, 0, "2", [], Odd(), Table(), A, Question.constant(2)]
        self.wrong([("least spread", APART, A + B, TABLES, 1, wrong) for wrong in values])

    def test_beyond_the_limits(self):
        def total(keys):
            return sum(named(keys), NOTHING)
        many_keys, great = total("cdefg"), A.power(5)
        products = A.power(4) + total("cde")
        seven = sketch_of(*[[{"a": 1}]] * 7)
        for question in (many_keys, great, products):
            self.wrong([(kind, COIN, question) for kind in ("answered", "not answered")])
            self.wrong([(kind, COIN, question, {}) for kind in ("on the box", "not on the box")])
            self.wrong([(kind, COIN, question, 1) for kind in ("by copies", "more copies")])
            self.wrong([(kind, COIN, question, ("s0",)) for kind in ("enough", "not enough")])
            self.wrong([("least spread", COIN, question, TABLES, 1, LEAST)])
        for kind in ("on the box", "not on the box"):
            self.wrong([(kind, COIN, A, {"a": 81}), (kind, COIN, A, {key: 0 for key in "cdefg"}),
                    (kind, COIN, A.power(4), {key: 0 for key in "cde"})])
        self.wrong([(kind, seven, A, 1) for kind in ("by copies", "more copies")])
        self.wrong([("least spread", COIN, A.power(3), TABLES, 1, LEAST), ("least spread", COIN, A, TABLES, 3, LEAST),
                    ("least spread", sketch_of([{"a": 1}] * 8, [{"a": 1}] * 8), A, TABLES, 2, LEAST)])
        self.assertIs(is_claim(("least spread", sketch_of([{"a": 1}] * 8, [{"a": 1}]), A, TABLES, 2, LEAST)), True)
        self.wrong([("as much", sample(list("abcd"), 4), sample(list("defg"), 4))])
        # For sets of seeds it is the whole sketch that counts.
        five = sample(list("abcde"), 1)
        self.wrong([("enough", five, A.power(4), ("s0",)), ("not enough", five, A.power(4), ("s0",))])
        self.assertIs(is_claim(("enough", sketch_of(*[[{"a": 1}]] * 12), A, ("s0",))), True)


class Certificates(unittest.TestCase):
    def check(self, claim, is_true):
        """Looks that a claim has a certificate just if it is true, and that it is judged right."""
        found = certificate_of(claim)
        self.assertIs(found is not None, is_true, claim)
        if is_true:
            self.assertIs(is_certificate(claim, found), True)
            self.assertIs(is_certificate(value=certificate_of(claim=claim), claim=claim), True)
        else:
            self.assertIs(is_certificate(claim, None), False)

    def both(self, kind, parts, is_true):
        """Looks that just one of a claim and its opposite is true, and that no certificate is one of the other."""
        one, other = (kind, *parts), (OPPOSITES[kind], *parts)
        self.check(one, is_true)
        self.check(other, not is_true)
        right, wrong = (one, other) if is_true else (other, one)
        self.assertIs(is_certificate(wrong, certificate_of(right)), False)

    def test_the_claims_above(self):
        for claim in CLAIMS:
            self.check(claim, True)
            for value in STRANGE:
                self.assertIs(is_certificate(claim, value), False, (claim[0], value))

    def test_answers(self):
        for chance in cases(1, 60):
            keys = some_keys(chance, 3)
            sketch, question = some_sketch(chance, keys, 3, 2), some_question(chance, keys, 2, 3)
            self.both("answered", (sketch, question), is_answered(notes_of(sketch), question))

    def test_boxes(self):
        for chance in cases(2, 60):
            keys = some_keys(chance, 2)
            sketch, question = some_sketch(chance, keys, 3, 1), some_question(chance, keys + ["z"], 2, 3)
            box = {key: chance.randint(0, 2) for key in keys}
            self.both("on the box", (sketch, question, box), box_rule(sketch, question, box) is not None)

    def test_copies(self):
        for chance in cases(3, 40):
            keys = some_keys(chance, 3)
            sketch, question = some_sketch(chance, keys, 3, 1), some_question(chance, keys, 2, 3)
            least = least_copies(sketch, question)
            for many in range(4):
                self.both("by copies", (sketch, question, many), least is not None and many >= least)

    def test_sets_of_seeds(self):
        for chance in cases(4, 40):
            keys = some_keys(chance, 2)
            sketch, question = some_sketch(chance, keys, 3, 2), some_question(chance, keys, 2, 2)
            for seeds in subsets(sketch.seeds()):
                is_true = is_answered([sums_of(sketch.note(seed)) for seed in seeds], question)
                self.assertIs(is_enough(sketch, question, seeds), is_true)
                self.both("enough", (sketch, question, seeds), is_true)

    def test_least_spreads(self):
        for chance in cases(5, 40):
            keys = some_keys(chance, 2)
            sketch, question = some_sketch(chance, keys, 3, 2), some_question(chance, keys, 2, 2)
            if chance.random() < 0.7:
                question = sum([row for _, _, note in sketch.walk() for row in note.questions()], Question.constant(3))
            tables = [(Table({key: chance.randint(-2, 2) for key in keys}),
                    Ratio(chance.randint(1, 3), 2)) for _ in range(2)]
            for degree in (0, 1, 2):
                if question.degree > degree or not can_answer(sketch, question):
                    with self.assertRaises(NotAnswered):
                        least_spread(sketch, question, tables, degree)
                    self.check(("least spread", sketch, question, tables, degree, Ratio(0)), False)
                    continue
                least, _ = least_spread(sketch, question, tables, degree)
                self.check(("least spread", sketch, question, tables, degree, least), True)
                self.check(("least spread", sketch, question, tuple(tables), degree, least + 1), False)

    def test_as_much(self):
        for chance in cases(6, 60):
            keys = some_keys(chance, 3)
            one, other = some_sketch(chance, keys, 3, 2), some_sketch(chance, keys, 3, 2)
            self.check(("as much", one, other), answers_as_much(one, other))
            self.check(("as much", one, one), True)
        self.check(("as much", sketch_of([]), sketch_of([], [{}])), True)


class OtherCertificates(unittest.TestCase):
    def no(self, claim, values):
        for value in values:
            self.assertIs(is_certificate(claim, value), False, value)

    def test_rules(self):
        claim = ("answered", COIN, A * B)
        rule = rule_for(COIN, A * B)
        zero = zero_base(COIN, 2)[0]
        self.assertIs(is_certificate(claim, rule + zero), True)
        self.no(claim, [rule * 2, rule - rule, Rule({"s0": rule.formula("s0")}), (rule,), {"s0": rule.formula("s0")},
                        Rule({"s0": rule.formula("s0"), "s1": rule.formula("s1"), "s2": NOTHING}),
                        rule + Rule({"s0": NOTHING, "s1": Question.constant(1)})])
        self.no(("answered", COIN, A * B + 1), [rule])
        self.no(("answered", APART, A * B), [rule])

    def test_moment_twins(self):
        claim = ("not answered", COIN, A * A)
        one, other = moment_twins(COIN, A * A)
        self.assertIs(is_certificate(claim, (other, one)), True)
        self.assertIs(is_certificate(claim, (tuple(one), other)), True)
        self.no(claim, [(one, one), [one, other], (one,), (one, other, []), (one[1:], other),
                (one, other + [(Table({"a": 9}), 1)]),
                        ([(table, -weight) for table, weight in one], other), (one + one, other + other),
                        ([(table, weight * 2) for table, weight in one], other)])
        self.no(("not answered", APART, A * A), [(one, other)])

    def test_rules_on_boxes(self):
        claim = ("on the box", APART, A * B + A, {"a": 1, "b": 0})
        rule = certificate_of(claim)
        self.assertEqual({seed: sorted(rule[seed]) for seed in rule}, {"s0": [(0,), (1,)], "s1": [(0,)]})
        other = {seed: dict(rule[seed]) for seed in rule}
        other["s0"][(1,)] = other["s0"][(1,)] + 1
        more = {**rule, "s1": {**rule["s1"], (1,): Ratio(0)}}
        self.no(claim, [other, more, {"s0": rule["s0"]}, {**rule, "s2": {}}, {**rule, "s1": {(0,): 0}},
                rule_for(APART, A)])

    def test_twins_on_boxes(self):
        claim = ("not on the box", APART, A * B, BOX)
        one, other = exact_twins(APART, A * B, box=BOX)
        self.assertIs(is_certificate(claim, (other, one)), True)
        common = (Table({"b": 1, "a": 1}), 3)
        more = [(table, times + 3) if table == common[0] else (table, times) for table, times in one]
        extra = more if more != one else one + [common]
        also = [(table, times + 3) if table == common[0] else (table, times) for table, times in other]
        also = also if also != other else other + [common]
        self.assertIs(is_certificate(claim, (extra, also)), True)
        far = (Table({"a": 2}), 1)
        strange = (Table({"z": 1}), 1)
        self.no(claim, [(one, one), (one[1:], other), [one, other], (one + [far], other + [far]),
                (one + [strange], other + [strange])])
        self.assertIs(is_certificate(("not on the box", APART, A * B, {"a": 2, "b": 1}), (one + [far], other + [far])),
                True)
        self.assertIs(is_certificate(("not on the box", APART, A * B, {"z": 1, **BOX}),
                (one + [strange], other + [strange])), True)

    def test_one_stack_in_the_box_and_one_beyond(self):
        total = sketch_of([{"a": 1, "b": 1}])
        one, other = [(Table({"a": 2}), 1)], [(Table({"b": 2}), 1)]
        self.no(("not on the box", total, A, {"a": 2, "b": 1}), [(one, other), (other, one)])
        self.assertIs(is_certificate(("not on the box", total, A, {"a": 2, "b": 2}), (one, other)), True)

    def test_copies(self):
        claim = ("by copies", APART, A * B, 2)
        rule = copies_rule(APART, A * B, 2)
        self.no(claim, [{}, {**rule, (): Question.constant(1)}, {seeds: formula * 2 for seeds, formula in rule.items()},
                Rule({})])
        self.assertIs(is_certificate(("by copies", APART, A * B, 3), rule), True)
        self.no(("by copies", APART, A * B, 1), [rule])
        twins = certificate_of(("more copies", APART, A * B, 1))
        self.no(("more copies", APART, A * B, 2), [twins])
        self.no(("more copies", APART, A * B, 1), [(twins[0], twins[0])])

    def test_sets_of_seeds(self):
        three = sketch_of([{"a": 1}], [{"b": 1}], [{"a": 1}, {"b": 1}])
        claim = ("enough", three, A, ("s0", "s1"))
        rule = certificate_of(claim)
        self.assertEqual(rule.seeds(), ["s0", "s1"])
        self.assertIs(is_rule(three.only(["s0", "s1"]), A, rule), True)
        self.no(claim, [rule_for(three, A), rule * 2, rule_for(three.only(["s0"]), A)])
        twins = certificate_of(("not enough", three, B, ("s0",)))
        self.no(("not enough", three, B, ("s0", "s1")), [twins])
        self.no(("not enough", three, B, ("s1",)), [twins])
        twins = certificate_of(("not enough", three, A * B, ("s0", "s1")))
        self.assertIs(is_certificate(("not enough", three, A * B, ("s0",)), twins), True)

    def test_least_spreads(self):
        claim = CLAIMS[8]
        rule = certificate_of(claim)
        zeros = zero_base(APART, 1)
        worse = [rule + zero for zero in zeros]
        self.no(claim, worse + [rule * 2, Rule({"s0": P})])
        self.no((*claim[:5], LEAST + 1), [rule, *worse])
        self.no(("least spread", APART, A, TABLES, 1, LEAST), [rule])
        # At one table two rules have the spread 0, but one of them is not of the degree.
        table = [(Table({"a": 1, "b": 1}), 1)]
        low = certificate_of(("least spread", APART, A, table, 1, Ratio(0)))
        high = low + Rule({"s0": P * P - P * 2 + 1, "s1": -(P * P - P * 2 + 1)})
        self.no(("least spread", APART, A, table, 1, Ratio(0)), [high])

    def test_as_much(self):
        one, other = sketch_of([{"a": 1}], [{"b": 1}, {"a": 1}]), sketch_of([{"b": 2}], [{"a": 1, "b": 1}], [])
        claim = ("as much", one, other)
        self.assertEqual(certificate_of(claim)[:2], ("s1", "s1"))
        for last in ("s0", "s1"):
            self.assertIs(is_certificate(claim, ("s1", "s1", last)), True)
        self.no(claim, [("s0", "s1", "s1"), ("s1", "s0", "s1"), ("s1", "s1"), ("s1",) * 4, ["s1"] * 3,
                ("s1", "s1", "s2"), ("s1", "s1", None),
                        ("s1", "s1", ["s1"]), "s1", ("s1", "s1", 1)])
        self.assertIsNone(certificate_of(("as much", other, one)))

    def test_certificates_of_other_claims(self):
        # What no seed tells apart on a box, no moments tell apart.
        alike = {("more copies", "not on the box")}
        found = {claim[0]: certificate_of(claim) for claim in CLAIMS}
        for claim in CLAIMS:
            for kind in found:
                if kind != claim[0] and (claim[0], kind) not in alike:
                    self.assertIs(is_certificate(claim, found[kind]), False, (claim[0], kind))

    def test_what_is_returned_may_be_changed(self):
        claim = ("by copies", APART, A * B, 2)
        certificate_of(claim).clear()
        self.assertIs(is_certificate(claim, certificate_of(claim)), True)
        claim = ("on the box", buckets(["a", "b"], 2), A * A, {"a": 1})
        certificate_of(claim)["s0"].clear()
        self.assertIs(is_certificate(claim, certificate_of(claim)), True)


if __name__ == "__main__":
    unittest.main()
