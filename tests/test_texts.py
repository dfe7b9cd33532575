"""Texts: points 8 and 37."""

import unittest

from made import cases, fraction, named, sketch_of, some_keys, some_question, some_sketch, value_of, weights_of
from notesums.errors import InvalidText
from notesums.makers import buckets, sample, signs
from notesums.notes import Note
from notesums.questions import Question
from notesums.ratios import Ratio
from notesums.rules import Rule
from notesums.sketches import Sketch
from notesums.tables import Table
from notesums.texts import note_text, read_note, read_question, read_rule, read_sketch, read_table, rule_text
from notesums.texts import sketch_text, sum_text, table_text
from wrong import NO_NAMES, Odd

A, B, P, Q = named(["a", "b", "p0", "p1"])
READERS = (read_question, read_table, read_note, read_sketch, read_rule)
NO_STRINGS = [None, True, False, 0, 1, b"a", b"", [], ["0"], (), ("{}",), {}, {"a": 1}, {"a"}, Odd(), A, Table(),
        Note([]),
              signs(["a"]), Rule({}), Ratio(1), str]
COIN_TEXT = "seed s0 1/2 [{a: 1, b: 1}]\nseed s1 1/2 [{a: 1, b: -1}]\n"
SIGNS = " \n-+*/:;,{}[]0123456789abpsxyz"


def line_of(test, call, text):
    """The line in the InvalidText that a call raises for a text."""
    with test.assertRaises(InvalidText, msg=repr(text)) as held:
        call(text)
    test.assertIs(type(held.exception), InvalidText)
    return held.exception.line


def spoilt(chance, text):
    """A text with one sign left out, put in or changed."""
    at = chance.randint(0, len(text))
    what = chance.randint(0, 2)
    if what == 0:
        return text[:at] + text[at + 1:]
    return text[:at] + chance.choice(SIGNS) + text[at + what - 1:]


def told(call, text):
    """What is read, or the line that is wrong."""
    try:
        return call(text)
    except InvalidText as error:
        return error.line


class Written(unittest.TestCase):
    def test_tables_and_sums(self):
        self.assertEqual(table_text(Table({"b": -1, "a": 3})), "{a: 3, b: -1}")
        self.assertEqual(table_text(table=Table()), "{}")
        self.assertEqual(table_text(Table({"b10": 10 ** 25, "b9": -(10 ** 25)})),
                f"{{b10: {10 ** 25}, b9: -{10 ** 25}}}")
        self.assertEqual(sum_text({"b": -1, "c": 0, "a": 3}), "{a: 3, b: -1}")
        self.assertEqual(sum_text(row={}), "{}")
        self.assertEqual(sum_text({"a": 0}), "{}")

    def test_notes(self):
        self.assertEqual(note_text(Note([{"b": 1, "a": 1}, {"a": 1, "b": -1}])), "[{a: 1, b: 1}; {a: 1, b: -1}]")
        self.assertEqual(note_text(note=Note([])), "[]")
        self.assertEqual(note_text(Note([{}])), "[{}]")
        self.assertEqual(note_text(Note([{"a": 0}, {}, {"a": 2}])), "[{}; {}; {a: 2}]")

    def test_sketches(self):
        self.assertEqual(sketch_text(signs(["a", "b"])), COIN_TEXT)
        self.assertEqual(sketch_text(sketch=sketch_of([])), "seed s0 1 []\n")
        named_ones = Sketch([("z", Ratio(2, 3), Note([{}])), ("b", Ratio(1, 3), Note([]))])
        self.assertEqual(sketch_text(named_ones), "seed z 2/3 [{}]\nseed b 1/3 []\n")

    def test_rules(self):
        rule = Rule({"s2": P * P - Q * Ratio(1, 2), "s10": Question(), "a": Question.constant(Ratio(-3, 4))})
        self.assertEqual(rule_text(rule), "rule a -3/4\nrule s10 0\nrule s2 p0*p0 - 1/2*p1\n")
        self.assertEqual(rule_text(rule=Rule({})), "")

    def test_the_question_of_the_document(self):
        question = A * A * 2 - B * Ratio(1, 2) + 3
        self.assertEqual(str(question), "2*a*a - 1/2*b + 3")
        self.assertEqual(read_question("2*a*a - 1/2*b + 3"), question)


class ReadBack(unittest.TestCase):
    def back(self, call, text, value):
        self.assertEqual(call(text), value)
        self.assertEqual(call(text=text), value)
        self.assertIs(type(call(text)), type(value))

    def test_questions(self):
        for text, weights in (("0", {}), ("1", {"": 1}), ("-1", {"": -1}), ("a", {"a": 1}), ("-a", {"a": -1}),
                              ("1/3", {"": Ratio(1, 3)}), ("-5/2*a*b", {"ab": Ratio(-5, 2)}),
                              ("b - a", {"b": 1, "a": -1}),
                              ("-b + a", {"b": -1, "a": 1}), ("a*a*b - b + 7", {"aab": 1, "b": -1, "": 7})):
            self.back(read_question, text, Question([(number, list(keys)) for keys, number in weights.items()]))
        self.back(read_question, "-abcdefgh*z9 - z9", Question([(-1, ["z9", "abcdefgh"]), (-1, ["z9"])]))
        self.back(read_question, f"{10 ** 40}*a", A * 10 ** 40)
        for chance in cases(1, 200):
            question = some_question(chance, some_keys(chance) + ["b10", "b9"], 4, 6)
            self.back(read_question, str(question), question)
            counts = {key: chance.randint(-3, 3) for key in question.used_keys()}
            value = read_question(str(question)).at(Table(counts))
            self.assertEqual(value_of(weights_of(question), counts), fraction(value))

    def test_tables(self):
        for counts in ({}, {"a": 3, "b": -1}, {"b9": 1, "b10": -2, "b": 7}, {"abcdefgh": 10 ** 30, "z": -(10 ** 30)}):
            self.back(read_table, table_text(Table(counts)), Table(counts))

    def test_notes(self):
        for sums in ([], [{}], [{}, {}], [{"a": 1}], [{"b": -5, "a": 1}, {}, {"z9": 10 ** 20}], [{"a": 1}] * 8):
            self.back(read_note, note_text(Note(sums)), Note(sums))
        self.assertEqual(len(read_note(note_text(Note.of_keys(*"abcdefgh")))), 8)

    def test_sketches_and_rules(self):
        for sketch in (signs(["a", "b"]), sample(list("abcde"), 3), buckets(list("abc"), 10 ** 20),
                sketch_of(*[[]] * 12)):
            self.back(read_sketch, sketch_text(sketch), sketch)
        for chance in cases(2, 100):
            sketch = some_sketch(chance, some_keys(chance), 4, 3)
            self.back(read_sketch, sketch_text(sketch), sketch)
            formulas = {seed: some_question(chance, ["p0", "p3", "p7"], 3, 4) for seed in sketch.seeds() + ["b", "s10"]}
            self.back(read_rule, rule_text(Rule(formulas)), Rule(formulas))
        self.back(read_rule, "", Rule({}))

    def test_only_exact_texts_are_read(self):
        for chance in cases(3, 600):
            keys = some_keys(chance, 2)
            sketch = some_sketch(chance, keys, 2, 2)
            question = some_question(chance, ["p0", "p1"], 2, 3)
            table = Table({key: chance.randint(-2, 12) for key in keys})
            for text, call, write in (
                    (str(question), read_question, str), (table_text(table), read_table, table_text),
                    (note_text(sketch.note("s0")), read_note, note_text),
                    (sketch_text(sketch), read_sketch, sketch_text),
                    (rule_text(Rule({"a": question, "b": question})), read_rule, rule_text)):
                other = spoilt(chance, text)
                found = told(call, other)
                if not isinstance(found, int):
                    self.assertEqual(write(found), other)


class Spoilt(unittest.TestCase):
    def wrong(self, call, texts):
        for text in texts:
            self.assertEqual(line_of(self, call, text), 1, repr(text))

    def test_no_strings(self):
        for call in READERS:
            for value in NO_STRINGS:
                self.assertIsNone(line_of(self, call, value))

    def test_questions(self):
        self.wrong(read_question, [
            "", " ", "a ", " a", "a  + b", "b  + a", "b +  a", "a + b", "b+a", "b +a", "b - -a", "b + -a", "+a", "--a",
            "- a", "-0",
            "+0", "00", "-00", "0*a", "0 + a", "a + 0", "0 ", "1*a", "-1*a", "a*1", "a*2", "2a", "2 * a", "a * a",
            "a**a", "*a", "a*",
            "2*", "*", "+", "-", "b*a", "a*b*a", "a - a", "b + b", "2*b + b", "01*a", "02*a", "2/4*a", "2/1*a", "1/0*a",
            "0/1",
            "1/-2", "-1/-2", "1/02", "/2", "1/", "1//2", "1/2/3", "A", "B + a", "Ab", "a_b", "abcdefghi", "1a", "3 + a",
            "a + a*a",
            "a*a + b*b", "b - a*a", "a\n", "\na", "b\n+ a", "a.b", "1.5", "1e5", "(a)", "b , a", "b + a +", "b + a -",
            "+ b + a",
            "b a", "b = a", "b * a", "b +", "2 3", "p0*p0 - p1*p1", "- 1", "1 1", "1 + 1", "{}", "[]", "a + b + 1"])
        self.assertEqual(read_question("b + a"), A + B)

    def test_tables(self):
        self.wrong(read_table, [
            "", " ", "{", "}", "}{", "{}}", "{{}", "{ }", " {}", "{} ", "[]", "()", "{a:1}", "{a : 1}", "{a: 1 }",
            "{ a: 1}", "{a:  1}",
            "{a: 1,b: 2}", "{a: 1,  b: 2}", "{a: 1; b: 2}", "{a: 1, }", "{, a: 1}", "{,}", "{a: 1,}", "{b: 1, a: 2}",
            "{a: 1, a: 1}",
            "{a: 1, a: 2}", "{a: 0}", "{a: -0}", "{a: 01}", "{a: +1}", "{a: 1/1}", "{a: 1/2}", "{a: 1.0}", "{a: }",
            "{a}", "{: 1}",
            "{A: 1}", "{1: 1}", "{'a': 1}", "{abcdefghi: 1}", "{a: b}", "{a: --1}", "{a: -}", "{a: None}", "{None: 1}",
            "{a: 1}\n", "\n{a: 1}", "{a: 1,\nb: 1}",
            "a: 1", "{a: 1", "a: 1}", "{a: 1}{b: 1}", "{a: 1: 2}", "{b9: 1, b10: 1}", "{a: 1_0}", "{a: 1 0}", "0", "a"])

    def test_notes(self):
        self.wrong(read_note, [
            "", "[", "]", "][", "{}", "[ ]", " []", "[] ", "[]\n", "[[]]", "[{}", "{}]", "[{};{}]", "[{} ; {}]",
            "[{};  {}]", "[{}, {}]",
            "[{}; ]", "[; {}]", "[;]", "[{};]", "[{a: 0}]", "[{b: 1, a: 1}]", "[{a: 1, a: 1}]", "[{a:1}]", "[a: 1]",
            "[{a: 1}; {a: 01}]",
            "[{a: 1}; {a: +1}]", "[{a: 1}; {a: 1/2}]", "[{A: 1}]", "[{a: 1}; a]", "[" + "; ".join(["{}"] * 9) + "]",
            "[" + "; ".join(["{a: 1}"] * 9) + "]", "[{a: 1}\n; {}]"])
        self.assertEqual(len(read_note("[" + "; ".join(["{}"] * 8) + "]")), 8)

    def test_lines_of_sketches(self):
        lines = ["seed s0 1/2 []", "seed s1 1/2 []"]
        for wrong in ("", " ", "seed", "seed s1", "seed s1 1/2", "seed s1 1/2 ", "seed s1  1/2 []", "seed  s1 1/2 []",
                "seed s1 1/2  []",
                      " seed s1 1/2 []", "seed s1 1/2 [] ", "Seed s1 1/2 []", "seeds s1 1/2 []", "rule s1 1/2 []",
                      "seed S1 1/2 []",
                      "seed 1s 1/2 []", "seed s0 1/2 []", "seed s1 2/4 []", "seed s1 None []", "seed s1 1/2 None",
                      "seed s1 0 []", "seed s1 -1/2 []", "seed s1 0/2 []",
                      "seed s1 +1/2 []", "seed s1 1/02 []", "seed s1 01/2 []", "seed s1 1/0 []", "seed s1 0.5 []",
                      "seed s1 1 []",
                      "seed s1 3/4 []", "seed s1 1/2 {}", "seed s1 1/2 [{a: 0}]", "seed s1 1/2 [{b: 1, a: 1}]",
                      "seed s1 1/2", "s1 1/2 []",
                      "seed s1 1/2 [] []", "seed abcdefghi 1/2 []", "seed s1 1/2 [" + "; ".join(["{}"] * 9) + "]"):
            self.assertEqual(line_of(self, read_sketch, f"{lines[0]}\n{wrong}\n"), 2, wrong)
            self.assertEqual(line_of(self, read_sketch, f"{lines[0]}\n{wrong}\nx\n"), 2, wrong)
            self.assertEqual(line_of(self, read_sketch, f"{lines[0]}\n{wrong}"), 2, wrong)
        self.assertEqual(read_sketch("\n".join(lines) + "\n"), sketch_of([], []))


class Lines(unittest.TestCase):
    def test_a_text_that_is_not_complete(self):
        self.assertEqual(line_of(self, read_sketch, ""), 1)
        self.assertEqual(line_of(self, read_sketch, "seed s0 1/2 []\n"), 2)
        self.assertEqual(line_of(self, read_sketch, "seed s0 1/2 []\nseed s1 1/3 []\n"), 3)
        self.assertEqual(line_of(self, read_sketch, "\n"), 1)

    def test_a_last_line_without_a_line_feed(self):
        for text, line in ((COIN_TEXT[:-1], 2), ("seed s0 1 []", 1), (COIN_TEXT + "x", 3), (COIN_TEXT + " ", 3),
                ("x", 1),
                           (COIN_TEXT + "\n", 3), (COIN_TEXT + COIN_TEXT, 3), ("seed s0 1/2 []\nseed s", 2)):
            self.assertEqual(line_of(self, read_sketch, text), line)
        self.assertEqual(line_of(self, read_sketch, "x\n" + COIN_TEXT[:-1]), 1)
        for text, line in (("rule a 0", 1), ("rule a 0\nrule b 0", 2), ("rule a 0\nx", 2), ("rule a 0\n\n", 2),
                ("\n", 1), (" ", 1)):
            self.assertEqual(line_of(self, read_rule, text), line)

    def test_weights_that_come_to_more_than_1(self):
        self.assertEqual(line_of(self, read_sketch, "seed a 1 []\nseed b 1/9 []\n"), 2)
        self.assertEqual(line_of(self, read_sketch, "seed a 4/3 []\n"), 1)
        self.assertEqual(line_of(self, read_sketch, "seed a 1/2 []\nseed b 1/3 []\nseed c 1/5 []\nseed d 1/9 []\n"), 3)

    def test_twelve_and_thirteen_seeds(self):
        def lines(weights):
            return "".join(f"seed s{at} {weight} []\n" for at, weight in enumerate(weights))
        self.assertEqual(len(read_sketch(lines(["1/12"] * 12))), 12)
        self.assertEqual(line_of(self, read_sketch, lines(["1/13"] * 13)), 12)
        self.assertEqual(line_of(self, read_sketch, lines(["1/13"] * 12)), 12)
        self.assertEqual(line_of(self, read_sketch, lines(["1/13"] * 11)), 12)
        self.assertEqual(line_of(self, read_sketch, lines(["1/13"] * 10)), 11)
        self.assertEqual(line_of(self, read_sketch, lines(["1/12"] * 13)), 13)
        self.assertEqual(len(read_sketch(lines(["1/13"] * 11 + ["2/13"]))), 12)

    def test_seven_keys(self):
        head = "seed a 1/2 [{a: 1, b: 1}; {c: 1, d: 1}]\n"
        self.assertEqual(len(read_sketch(head + "seed b 1/2 [{a: 1, e: 1, f: 1}]\n")), 2)
        self.assertEqual(line_of(self, read_sketch, head + "seed b 1/4 [{e: 1, f: 1, g: 1}]\nseed c 1/4 []\n"), 2)
        self.assertEqual(line_of(self, read_sketch, "seed a 1 [{a: 1, b: 1, c: 1, d: 1, e: 1, f: 1, g: 1}]\n"), 1)

    def test_a_seed_twice(self):
        self.assertEqual(line_of(self, read_sketch, "seed a 1/4 []\nseed b 1/4 []\nseed a 1/2 []\n"), 3)

    def test_nine_sums(self):
        text = "seed a 1/4 []\nseed b 3/4 [" + "; ".join(["{}"] * 9) + "]\n"
        self.assertEqual(line_of(self, read_sketch, text), 2)
        self.assertEqual(len(read_sketch(text.replace("{}; ", "", 1))), 2)

    def test_rules(self):
        for wrong in ("", "rule", "rule b", "rule b ", "rule b  p0", "rule  b p0", " rule b p0", "rule b p0 ",
                "Rule b p0", "seed b p0",
                      "rule a p0", "rule A p0", "rule 0 p0", "rule b p8", "rule b a", "rule b p10",
                      "rule b p0*p0 + p1*p1", "rule b 1*p0",
                      "rule b p0 + p1", "rule b -0", "rule b p00", "rule b p0\trule", "b p0", "rule b q0",
                      "rule abcdefghi p0"):
            self.assertEqual(line_of(self, read_rule, f"rule a p7\n{wrong}\n"), 2, wrong)
            self.assertEqual(line_of(self, read_rule, f"rule a p7\n{wrong}\nx\n"), 2, wrong)
        self.assertEqual(read_rule("rule a p7\nrule b p1 + p0\n").formula("b"), P + Q)
        self.assertEqual(line_of(self, read_rule, "rule b 0\nrule a 0\n"), 2)
        self.assertEqual(line_of(self, read_rule, "rule s10 0\nrule s2 0\nrule s1 0\n"), 3)
        self.assertEqual(len(read_rule("".join(f"rule a{at} 0\n" for at in range(10, 40))).seeds()), 30)

    def test_names(self):
        for name in NO_NAMES:
            if isinstance(name, str):
                self.assertEqual(line_of(self, read_sketch, f"seed {name} 1 []\n"), 1)
                self.assertEqual(line_of(self, read_rule, f"rule {name} 0\n"), 1)
                self.assertEqual(line_of(self, read_table, f"{{{name}: 1}}"), 1)
                if name not in ("1", "a*b"):
                    self.assertEqual(line_of(self, read_question, name), 1)


if __name__ == "__main__":
    unittest.main()
