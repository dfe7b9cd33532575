"""The desk: point 39."""

import unittest

from made import named, sample, sketch_of
from notesums.answers import remainder
from notesums.copies import least_copies
from notesums.desk import Desk
from notesums.enough import least_sets
from notesums.errors import InvalidCommand, InvalidCount, InvalidKeys, InvalidSeeds, MissingError, NameTaken
from notesums.errors import NotesumsError, NothingToUndo, OtherSeeds, TooMany, UnknownName, UnknownSeed
from notesums.makers import buckets, signed_buckets, signs
from notesums.questions import Question
from notesums.ratios import Ratio
from notesums.rules import Rule, is_rule
from notesums.tables import Table
from notesums.texts import read_rule
from wrong import NO_NAMES, Odd, refused

A, B = named("ab")
FILLED = ["sketch s signs a b", "sketch one sample 1 a b", "question q a*b", "question sq a*a", "table t {a: 3, b: -1}",
          "sketch only1 only s s1"]
NAMES = ["one", "only1", "q", "s", "sq", "t"]
ASKING = ["can s q", "copies s q", "remainder s q", "sets s q", "rule s q", "shows s s0 t", "value q t"]


def desk_with(*commands):
    """A desk after some commands that answer `done`."""
    desk = Desk()
    assert desk.do_all(list(commands)) == ["done"] * len(commands)
    return desk


def answered(desk, command):
    """The answer to a question, or the kind of the error."""
    try:
        return desk.tried([command])
    except NotesumsError as error:
        return type(error)
    except MissingError as error:
        return type(error)


def told(desk):
    """What can be asked of a desk filled as above, to see whether anything has changed."""
    return desk.names(), desk.log(), [answered(desk, command) for command in ASKING]


class Errors(unittest.TestCase):
    def raises(self, error, desk, command, **attributes):
        """Looks that a command raises just this error by each way to perform it, and that nothing changes."""
        before = told(desk)
        for call in (desk.do, lambda value: desk.do_all([value]), lambda value: desk.tried((value,))):
            with self.assertRaises(error, msg=command) as held:
                call(command)
            self.assertIs(type(held.exception), error, command)
            self.assertEqual(vars(held.exception), attributes, command)
        self.assertEqual(told(desk), before)


class Sketches(Errors):
    def made(self, text, expected):
        """Looks at a new sketch by what it shows and answers beside an expected one."""
        desk = Desk()
        self.assertEqual(desk.do(f"sketch new {text}"), "done")
        self.check(desk, "new", expected)

    def check(self, desk, name, expected):
        keys = expected.used_keys()
        table = Table({key: 3 ** at for at, key in enumerate(keys)})
        entries = ", ".join(f"{key}: {3 ** at}" for at, key in enumerate(keys))
        question = sum((Question.of_key(key) * Question.of_key(keys[0]) for key in keys), Question.constant(1))
        desk.do(f"table t99 {{{entries}}}")
        desk.do(f"question q99 {question}")
        for seed in expected.seeds():
            shown = ", ".join(map(str, expected.shows(seed, table))) or "nothing"
            self.assertEqual(desk.do(f"shows {name} {seed} t99"), shown)
        with self.assertRaises(UnknownSeed):
            desk.do(f"shows {name} s{len(expected)} t99")
        self.assertEqual(desk.do(f"remainder {name} q99"), str(remainder(expected, question)))
        rule = desk.do(f"rule {name} q99")
        if rule != "none":
            self.assertTrue(is_rule(expected, question, read_rule(rule)))

    def test_made_ones(self):
        self.made("sample 1 a b", sample(["a", "b"], 1))
        self.made("sample 2 c b a", sample(["a", "b", "c"], 2))
        self.made("sample 1 a", sample(["a"], 1))
        self.made("buckets 3 b a", buckets(["a", "b"], 3))
        self.made(f"buckets {10 ** 25} a b c", buckets(["a", "b", "c"], 10 ** 25))
        self.made("signed 2 b a", signed_buckets(["a", "b"], 2))
        self.made("signs c a b", signs(["a", "b", "c"]))
        self.made("signs signs", signs(["signs"]))
        self.made("sample 1 sample sketch", sample(["sample", "sketch"], 1))

    def test_made_of_others(self):
        desk = desk_with("sketch s signs a b", "sketch o sample 1 a b", "sketch m merged s o", "sketch p paired o s",
                         "sketch c copies s 2", "sketch c1 copies o 1", "sketch n only o s1", "sketch n2 only s s1 s0")
        s, o = signs(["a", "b"]), sample(["a", "b"], 1)
        for name, expected in (("m", s.merged(o)), ("p", o.paired(s)), ("c", s.copies(2)), ("c1", o), ("n2", s)):
            self.check(desk, name, expected)
            for _ in range(2):
                desk.undo()
        self.assertEqual(desk.do_all(["table t {a: 5, b: 7}", "shows n s1 t"]), ["done", "7"])
        self.raises(UnknownSeed, desk, "shows n s0 t", value="s0")

    def test_errors_of_made_ones(self):
        desk = desk_with(*FILLED)
        self.raises(InvalidCount, desk, "sketch n sample 0 a", value=0)
        self.raises(InvalidCount, desk, "sketch n sample 3 a b", value=3)
        self.raises(InvalidCount, desk, "sketch n buckets 0 a", value=0)
        self.raises(InvalidCount, desk, "sketch n signed 0 a", value=0)
        for words in ("sample 1", "buckets 0", "signed 2", "signs"):
            self.raises(InvalidKeys, desk, f"sketch n {words} b a b", value=["b", "a", "b"])
        self.raises(TooMany, desk, "sketch n sample 2 a b c d e f", kind="seeds", limit=12)
        self.raises(TooMany, desk, "sketch n sample 1 a b c d e f g", kind="keys", limit=6)
        self.raises(TooMany, desk, "sketch n sample 9 a b c d e f g h i", kind="sums", limit=8)
        self.raises(TooMany, desk, "sketch n signs a b c d e", kind="seeds", limit=12)

    def test_errors_of_those_made_of_others(self):
        desk = desk_with(*FILLED, "sketch three sample 1 a b c")
        self.raises(OtherSeeds, desk, "sketch n merged s three", name="s0")
        self.raises(OtherSeeds, desk, "sketch n merged only1 s", name="s1")
        self.raises(TooMany, desk, "sketch n copies s 4", kind="seeds", limit=12)
        self.raises(TooMany, desk, f"sketch n copies s {10 ** 25}", kind="sums", limit=8)
        self.raises(InvalidCount, desk, "sketch n copies s 0", value=0)
        self.raises(UnknownSeed, desk, "sketch n only s s0 s2", value="s2")
        self.raises(InvalidSeeds, desk, "sketch n only s s1 s0 s1", position=2)


class Asked(Errors):
    def test_each_question(self):
        desk = desk_with(*FILLED, "question nothing 0", "question c c", "question done done", "table e {}")
        for command, answer in (
                ("can s q", "yes"), ("can s sq", "no"), ("can one q", "no"), ("copies s q", "1"), ("copies s sq", "2"),
                ("copies s c", "never"),
                ("copies s nothing", "0"), ("remainder s q", "0"), ("remainder s sq", "-b*b"), ("remainder s c", "c"),
                ("sets s q", "s0+s1"),
                ("sets s sq", "none"), ("sets s nothing", "s0 s1"), ("sets one sq", "s0"), ("rule s sq", "none"),
                ("rule s nothing", "rule s0 0\nrule s1 0\n"), ("shows s s0 t", "2"), ("shows s s1 t", "4"),
                ("shows only1 s1 e", "0"),
                ("value q t", "-3"), ("value sq t", "9"), ("value nothing t", "0"), ("value c t", "0"),
                ("remainder s done", "done")):
            self.assertEqual(desk.do(command), answer, command)
            self.assertEqual(desk.do_all([command, command]), [answer, answer])
        self.assertEqual(len(desk.log()), len(FILLED) + 4)

    def test_rules(self):
        desk = desk_with(*FILLED)
        found = read_rule(desk.do("rule s q"))
        self.assertIs(type(found), Rule)
        self.assertTrue(is_rule(signs(["a", "b"]), A * B, found))

    def test_sums_of_any_number(self):
        desk = desk_with("sketch m sample 2 a b c", "table t {a: 1, b: -20, c: 300}", "sketch one sample 1 a b c",
                "sketch two merged one m",
                         "question h 1/2*a", "sketch both sample 1 a", "sketch s2 signs a b", "question s2q a")
        self.assertEqual(desk.do("shows m s1 t"), "1, 300")
        self.assertEqual(desk.do("shows two s2 t"), "300, -20, 300")
        self.assertEqual(desk.do("value h t"), "1/2")
        self.assertEqual(desk.do("sets m h"), "s0 s1")
        self.assertEqual(desk.do("sets s2 s2q"), "s0+s1")

    def test_nothing_shown(self):
        # No command makes a sketch with an empty note, so it is put on the desk as commands would.
        desk = desk_with("table t {a: 1}")
        desk._steps.append(("sketch e", {**desk._held(), "e": sketch_of([])}))
        self.assertEqual(desk.do("shows e s0 t"), "nothing")

    def test_beside_the_functions(self):
        desk = desk_with(*FILLED, "sketch bu buckets 2 a b c", "question u -c*c + a*b")
        sketch = buckets(["a", "b", "c"], 2)
        for name, question in (("q", A * B), ("sq", A * A), ("u", A * B - Question.of_key("c").power(2))):
            self.assertEqual(desk.do(f"remainder bu {name}"), str(remainder(sketch, question)))
            self.assertEqual(desk.do(f"copies bu {name}"), str(least_copies(sketch, question)))
            sets = least_sets(sketch, question)
            self.assertEqual(desk.do(f"sets bu {name}"), " ".join("+".join(seeds) for seeds in sets) or "none")

    def test_errors(self):
        desk = desk_with(*FILLED, "sketch nine sample 1 a b c d e f", "question deep a*a*a*a*a",
                "question g f + e + d + c + b + a",
                         "question z z", "sketch big sample 4 a b c d e")
        self.raises(TooMany, desk, "can s deep", kind="degree", limit=4)
        self.raises(TooMany, desk, "rule nine z", kind="keys", limit=6)
        self.raises(TooMany, desk, "remainder s deep", kind="degree", limit=4)
        self.raises(TooMany, desk, "copies s deep", kind="degree", limit=4)
        self.raises(TooMany, desk, "sets s deep", kind="degree", limit=4)
        self.raises(UnknownSeed, desk, "shows s s2 t", value="s2")
        desk.do("sketch ten sample 3 a b c d e")
        self.raises(TooMany, desk, "copies ten q", kind="seeds", limit=6)
        self.raises(TooMany, desk, "sets ten q", kind="seeds", limit=8)


class Forms(Errors):
    def wrong(self, commands):
        desk = desk_with(*FILLED)
        before = told(desk)
        for call in (desk.do, lambda value: desk.do_all([value]), lambda value: desk.tried([value])):
            refused(self, InvalidCommand, commands, call)
        self.assertEqual(told(desk), before)

    def test_no_commands(self):
        self.wrong([None, True, 0, 1, b"drop s", [], ["drop s"], ("drop s",), {}, Odd(), A, Table(), "", " ", "x",
                "done", "undo", "log", "names",
                    "Sketch n signs a", "sketches n signs a", "drops s", "sketch", "question", "table", "drop", "can",
                    "value"])

    def test_spaces(self):
        for command in ("sketch n signs a b", "sketch n sample 1 a b", "sketch n merged s s", "sketch n copies s 1",
                "sketch n only s s0", "drop s",
                        "question n a*b", "table n {}", *ASKING):
            spaces = [at for at, sign in enumerate(command) if sign == " "]
            self.wrong([f" {command}", f"{command} ", f"{command}\n", f"\n{command}"])
            self.wrong([command[:at] + " " + command[at:] for at in spaces])
            self.wrong([command[:at] + "\n" + command[at + 1:] for at in spaces])

    def test_words_too_many_or_too_few(self):
        self.wrong(["sketch n", "sketch n sample", "sketch n sample 1", "sketch n sample a b", "sketch n buckets 2",
                "sketch n signed 2", "sketch n signs",
                    "sketch n merged s", "sketch n merged s s s", "sketch n paired s", "sketch n paired s one s",
                    "sketch n copies s",
                    "sketch n copies s 1 1", "sketch n copies 1", "sketch n copies 2 s", "sketch n only s",
                    "sketch n only", "sketch n merged",
                    "sketch n s", "sketch n sketch s", "sketch n weighted s s", "drop s q", "drop s s", "can s",
                    "can s q q", "copies s", "copies s q 1",
                    "remainder s", "remainder s q t", "sets s", "sets s q s0", "rule s", "rule s q t", "shows s s0",
                    "shows s t", "shows s s0 t t",
                    "value q", "value q t t", "question n", "table n", "question", "question n ", "table n "])

    def test_names(self):
        for name in NO_NAMES:
            if isinstance(name, str):
                self.wrong([f"sketch {name} signs a", f"question {name} a", f"table {name} {{}}", f"drop {name}",
                        f"can {name} q", f"can s {name}",
                            f"value q {name}", f"value {name} t", f"shows s {name} t", f"shows {name} s0 t",
                            f"sketch n merged s {name}",
                            f"sketch n merged {name} s", f"sketch n copies {name} 1"])
                if name != "a b":
                    self.wrong([f"sketch n only {name} s0", f"sketch n signs {name}", f"sketch n signs a {name}",
                            f"sketch n sample 1 {name}", f"sketch n only s {name}"])

    def test_numbers(self):
        for number in ("00", "01", "-1", "-0", "+1", "1.0", "1/1", "", "a", "1a", "--1", "-", "1e1"):
            self.wrong([f"sketch n sample {number} a b", f"sketch n buckets {number} a", f"sketch n signed {number} a",
                    f"sketch n copies s {number}"])

    def test_texts(self):
        for text in ("", " ", "a +  b", "a + b", "b*a", "1*a", "a ", "+a", "0*a", "a - a", "A", "{}", "2/4", "b + a\n"):
            self.wrong([f"question n {text}", f"question s {text}"])
        for text in ("", " ", "{a:1}", "{a: 0}", "{b: 1, a: 1}", "{a: 1,b: 1}", "{a: 1/2}", "{} ", "[{}]", "a", "0",
                "{a: 1}\n"):
            self.wrong([f"table n {text}", f"table s {text}"])

    def test_lists(self):
        desk = desk_with(*FILLED)
        before = told(desk)
        for call in (desk.do_all, desk.tried):
            refused(self, InvalidCommand, [None, True, 0, "drop s", {}, {"drop s": 1}, {"drop s"}, Odd(), desk], call)
            refused(self, InvalidCommand, [None, ["drop s"], 5, "x"], lambda value: call(["drop s", value, "drop s"]))
            self.assertEqual(call([]), [])
            self.assertEqual(call(()), [])
        self.assertEqual(told(desk), before)


class Sequence(Errors):
    def test_the_form_comes_first(self):
        desk = desk_with(*FILLED)
        for command in ("sketch s merged x", "sketch s copies x 01", "question s a*", "table q {a}", "drop x y",
                "can x"):
            self.raises(InvalidCommand, desk, command, value=command)

    def test_then_names_that_are_taken(self):
        desk = desk_with(*FILLED)
        for name in NAMES:
            for words in (f"sketch {name} signs a a", f"sketch {name} sample 0 a", f"sketch {name} merged x y",
                    f"sketch {name} copies x 0",
                          f"sketch {name} only {name} x", f"question {name} a", f"table {name} {{}}",
                          f"sketch {name} signs a b c d e f g"):
                self.raises(NameTaken, desk, words, name=name)

    def test_then_names_that_are_not_known(self):
        desk = desk_with(*FILLED)
        for command, name in (
                ("sketch n merged x y", "x"), ("sketch n merged s y", "y"), ("sketch n merged q t", "q"),
                ("sketch n paired s t", "t"),
                ("sketch n merged n s", "n"), ("sketch n copies x 0", "x"), ("sketch n copies q 0", "q"),
                ("sketch n only x s0 s0", "x"),
                ("sketch n only t s0", "t"), ("can x y", "x"), ("can s y", "y"), ("can q s", "q"), ("can s s", "s"),
                ("can s t", "t"),
                ("copies x q", "x"), ("copies s t", "t"), ("remainder t q", "t"), ("remainder s s", "s"),
                ("sets x q", "x"), ("sets s x", "x"),
                ("rule q q", "q"), ("rule s x", "x"), ("shows x s9 y", "x"), ("shows s s9 y", "y"),
                ("shows s s9 q", "q"), ("shows t s0 t", "t"),
                ("value x y", "x"), ("value q y", "y"), ("value t q", "t"), ("value s t", "s"), ("value q q", "q"),
                ("drop x", "x"), ("drop n", "n")):
            self.raises(UnknownName, desk, command, value=name)


class Undone(Errors):
    def test_names_that_are_dropped_and_taken_again(self):
        desk = desk_with(*FILLED)
        self.assertEqual(desk.do("drop q"), "done")
        self.assertEqual(desk.names(), ["one", "only1", "s", "sq", "t"])
        self.raises(UnknownName, desk, "drop q", value="q")
        self.raises(UnknownName, desk, "can s q", value="q")
        self.assertEqual(desk.do("table q {b: 5}"), "done")
        self.raises(UnknownName, desk, "can s q", value="q")
        self.assertEqual(desk.do("shows s s1 q"), "-5")
        self.assertEqual(desk.do_all(["drop q", "question q b", "value q t", "drop s", "drop t", "sketch t signs b",
                "can t q"]),
                         ["done", "done", "-1", "done", "done", "done", "yes"])
        # What was made of a sketch stays.
        self.assertEqual(desk.do_all(["table u {a: 1}", "shows only1 s1 u"]), ["done", "1"])

    def test_each_command(self):
        for command in ("sketch n signs a b", "sketch n sample 1 a", "sketch n buckets 2 a", "sketch n signed 2 a",
                "sketch n merged s one",
                        "sketch n paired s one", "sketch n copies s 2", "sketch n only s s0", "question n a",
                        "table n {a: 1}", "drop s", "drop q", "drop t"):
            desk = desk_with(*FILLED)
            before = told(desk)
            self.assertEqual(desk.do(command), "done")
            self.assertEqual(desk.log(), FILLED + [command])
            self.assertNotEqual(told(desk), before)
            self.assertIsNone(desk.undo())
            self.assertEqual(told(desk), before)

    def test_all_of_them(self):
        desk = desk_with(*FILLED, "drop q", "table q {}")
        for left in range(len(FILLED) + 2, 0, -1):
            self.assertEqual(len(desk.log()), left)
            desk.undo()
        self.assertEqual((desk.names(), desk.log()), ([], []))
        for _ in range(2):
            with self.assertRaises(NothingToUndo):
                desk.undo()
        self.assertEqual(desk.do("question q a"), "done")
        self.assertEqual(desk.log(), ["question q a"])

    def test_what_answers_otherwise_is_not_taken_back(self):
        desk = desk_with(*FILLED)
        for command in ASKING:
            desk.do(command)
        self.assertEqual(desk.log(), FILLED)
        desk.undo()
        self.assertEqual(desk.log(), FILLED[:-1])
        self.assertEqual(desk.names(), ["one", "q", "s", "sq", "t"])

    def test_an_answer_that_is_the_key_done(self):
        desk = desk_with("sketch s signs a", "question q done")
        self.assertEqual(desk.do("remainder s q"), "done")
        self.assertEqual(desk.log(), ["sketch s signs a", "question q done"])
        desk.undo()
        self.assertEqual(desk.names(), ["s"])


class Lists(Errors):
    def test_done_one_by_one_or_together(self):
        commands = FILLED + ASKING + ["drop q", "question q a", "value q t", "drop only1"]
        one, other, third = Desk(), Desk(), Desk()
        answers = [one.do(command) for command in commands]
        self.assertEqual(other.do_all(commands=commands), answers)
        self.assertEqual(third.tried(commands=tuple(commands)), answers)
        self.assertEqual(told(one), told(other))
        self.assertEqual((third.names(), third.log()), ([], []))
        self.assertEqual(answers.count("done"), len(one.log()))

    def test_the_last_one_is_undone_alone(self):
        desk = Desk()
        desk.do_all(["question q a", "table t {a: 2}", "value q t", "drop q"])
        desk.undo()
        self.assertEqual(desk.log(), ["question q a", "table t {a: 2}"])
        self.assertEqual(desk.do("value q t"), "2")

    def test_one_of_which_raises(self):
        desk = desk_with(*FILLED)
        before = told(desk)
        for wrong, error in (("drop q", UnknownName), ("table t {}", NameTaken), ("x", InvalidCommand),
                ("sketch n sample 0 a", InvalidCount),
                             ("shows s s5 t", UnknownSeed), (None, InvalidCommand)):
            for call in (desk.do_all, desk.tried):
                with self.assertRaises(error):
                    call(["drop q", "question new b", wrong, "drop s"])
                self.assertEqual(told(desk), before)

    def test_tried_has_no_effect(self):
        desk = desk_with(*FILLED)
        before = told(desk)
        for _ in range(2):
            self.assertEqual(desk.tried(["drop q", "question q b", "value q t", "drop s", "drop t"]),
                    ["done", "done", "-1", "done", "done"])
            self.assertEqual(told(desk), before)

    def test_the_log_done_again(self):
        desk = desk_with(*FILLED, "drop q", "question q 1/2*b*b", "sketch m merged s one", "drop one")
        desk.do_all(["can s q", "drop m"])
        desk.undo()
        other = Desk()
        self.assertEqual(other.do_all(desk.log()), ["done"] * len(desk.log()))
        self.assertEqual(told(other), told(desk))
        self.assertEqual(other, desk)

    def test_two_desks(self):
        one, other = desk_with(*FILLED), Desk()
        self.assertEqual((other.names(), other.log()), ([], []))
        other.do("question s a")
        self.assertEqual(one.do("can s q"), "yes")
        one.undo()
        self.assertEqual(other.log(), ["question s a"])
        with self.assertRaises(UnknownName):
            other.do("can s s")

    def test_what_is_returned_may_be_changed(self):
        desk = desk_with(*FILLED)
        commands = ["drop q"]
        desk.do_all(commands)
        commands[0] = "drop s"
        desk.log().clear()
        desk.names().clear()
        self.assertEqual((desk.log(), desk.names()), (FILLED + ["drop q"], ["one", "only1", "s", "sq", "t"]))

    def test_equality(self):
        one, other = desk_with("question q a"), Desk()
        self.assertEqual(Desk(), Desk())
        self.assertNotEqual(one, other)
        other.do(command="question q a")
        self.assertTrue(one == other and not one != other)
        self.assertFalse(one == "question q a" or one == ["question q a"] or one is None)


class Numbers(unittest.TestCase):
    def test_weights_by_the_questions(self):
        desk = desk_with("question q 7/3*a - 1/2", "table t {a: -3}", "table u {a: 1}", f"question g {10 ** 30}*a*a",
                f"table v {{a: {10 ** 29}}}")
        self.assertEqual([desk.do("value q t"), desk.do("value q u")], ["-15/2", "11/6"])
        self.assertEqual(desk.do("value g v"), str(10 ** 88))
        self.assertEqual(Ratio(-15, 2), A.put({"a": Ratio(-15, 2)}).at(Table()))


if __name__ == "__main__":
    unittest.main()
