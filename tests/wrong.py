"""Values of many kinds, and the checks that a call refuses them."""

from notesums.errors import TooMany


class Odd:
    """An object of a class that the package does not know."""


NO_INTEGERS = [True, False, None, "", "1", "a", b"1", [], [1], (), (1,), (1, 2), {}, {"a": 1}, {1}, Odd(), int, len]

NO_NAMES = [
    "", "abcdefghi", "a23456789", "A", "aB", "Abc", "1a", "1", "_a", "a_", "a b", " a", "a ", "a\n", "\n", "a-", "a*b",
    "a.", "{", "`", "a`", "a@", "a/", "a:", "a[",
    None, True, False, 0, 1, b"a", [], ["a"], (), ("a",), {}, {"a": 1}, {"a"}, Odd(), str, len,
]

NAMES = ["a", "z", "b1", "a0", "z9", "abcdefgh", "a2345678", "aaaaaaaa", "p0"]


def refused(test, error, values, call):
    """Looks that call(value) raises just this error, with the value in it, for each value."""
    for value in values:
        with test.assertRaises(error) as held:
            call(value)
        test.assertIs(type(held.exception), error)
        test.assertIs(held.exception.value, value)


def position_of(test, error, call):
    """The position in the error that a call raises."""
    with test.assertRaises(error) as held:
        call()
    test.assertIs(type(held.exception), error)
    return held.exception.position


def too_many(test, kind, limit, call):
    """Looks that a call raises TooMany of just this kind."""
    with test.assertRaises(TooMany) as held:
        call()
    test.assertEqual((held.exception.kind, held.exception.limit), (kind, limit))
