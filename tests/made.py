"""Questions, notes and sketches for the tests, and plain ways to work out what is expected."""

import random
from fractions import Fraction
from itertools import combinations, combinations_with_replacement, product

from notesums.notes import Note
from notesums.questions import Question
from notesums.ratios import Ratio
from notesums.sketches import Sketch
from notesums.tables import Table


def fraction(number):
    """The Fraction for a NUMBER."""
    return Fraction(number.top, number.bottom) if isinstance(number, Ratio) else Fraction(number)


def ratio(number):
    """The Ratio for a Fraction or an integer."""
    return Ratio(Fraction(number).numerator, Fraction(number).denominator)


def asked(weights):
    """The question for a dict from strings of keys of one letter to numbers: {"ab": 2} is 2*a*b."""
    return Question([(ratio(number), list(keys)) for keys, number in weights.items()])


def weights_of(question):
    """The dict from the products of a question to Fractions."""
    return {keys: fraction(number) for number, keys in question.terms()}


def value_of(weights, counts):
    """The value of a sum of products at a dict of numbers, term by term."""
    total = Fraction(0)
    for keys, number in weights.items():
        for key in keys:
            number = number * counts.get(key, 0)
        total += number
    return total


def times(one, other):
    """Two dicts from sorted tuples to Fractions, multiplied out."""
    found = {}
    for left, first in one.items():
        for right, second in other.items():
            both = tuple(sorted(left + right))
            found[both] = found.get(both, 0) + first * second
    return {keys: number for keys, number in found.items() if number}


def rank(lines):
    """The rank of lists of numbers, by elimination with Fractions."""
    lines = [[Fraction(number) for number in line] for line in lines]
    found = 0
    for at in range(len(lines[0]) if lines else 0):
        pivot = next((k for k in range(found, len(lines)) if lines[k][at]), None)
        if pivot is None:
            continue
        lines[found], lines[pivot] = lines[pivot], lines[found]
        for k in range(found + 1, len(lines)):
            many = lines[k][at] / lines[found][at]
            lines[k] = [x - many * y for x, y in zip(lines[k], lines[found])]
        found += 1
    return found


def in_span(lines, target):
    """Whether a list is a sum of multiples of others."""
    return rank(lines + [target]) == rank(lines) if lines else not any(target)


def sums_of(note):
    """The sums of a note as dicts from tuples of one key to Fractions."""
    return [{(key,): Fraction(number) for key, number in row.items()} for row in note.sums()]


def products_of_sums(sums, degree):
    """All products of so many of some sums, multiplied out."""
    found = []
    for some in combinations_with_replacement(sums, degree):
        whole = {(): Fraction(1)}
        for row in some:
            whole = times(whole, row)
        found.append(whole)
    return found


def is_answered(notes, question):
    """Whether each part of a question is a sum of products of sums of the same note (lists of dicts)."""
    weights = weights_of(question)
    for degree in {len(keys) for keys in weights}:
        part = {keys: number for keys, number in weights.items() if len(keys) == degree}
        found = [whole for sums in notes for whole in products_of_sums(sums, degree)]
        columns = sorted({keys for whole in found + [part] for keys in whole})
        lines = [[whole.get(keys, 0) for keys in columns] for whole in found]
        if not in_span(lines, [part.get(keys, 0) for keys in columns]):
            return False
    return True


def notes_of(sketch):
    """The notes of a sketch as lists of sums."""
    return [sums_of(note) for _, _, note in sketch.walk()]


def sketch_of(*notes, weights=None):
    """A sketch with these lists of sums, or Notes, for seeds s0, s1, .."""
    weights = weights or [Ratio(1, len(notes))] * len(notes)
    notes = [note if isinstance(note, Note) else Note(note) for note in notes]
    return Sketch([(f"s{at}", weight, note) for at, (weight, note) in enumerate(zip(weights, notes))])


def sample(keys, many):
    """A seed for each set of so many of the keys."""
    return sketch_of(*[Note.of_keys(*some) for some in combinations(sorted(keys), many)])


def signs(keys):
    """A seed for each way to give the keys signs in which the first one has 1."""
    keys = sorted(keys)
    ways = [(1, *rest) for rest in product((1, -1), repeat=len(keys) - 1)]
    return sketch_of(*[[dict(zip(keys, way))] for way in ways])


def some_note(chance, keys, most=3, greatest=2):
    """Any note."""
    sums = []
    for _ in range(chance.randint(0, most)):
        used = chance.sample(keys, chance.randint(0, len(keys)))
        sums.append({key: chance.randint(-greatest, greatest) for key in used})
    return Note(sums)


def plain_note(chance, keys):
    """Any plain note: some keys in buckets."""
    buckets = [{} for _ in range(chance.randint(0, 3))]
    for key in keys:
        at = chance.randint(0, len(buckets))
        if at < len(buckets):
            buckets[at][key] = 1
    return Note(buckets)


def some_sketch(chance, keys, seeds=4, most=3, plain=False):
    """Any sketch with different weights."""
    many = chance.randint(1, seeds)
    parts = [chance.randint(1, 5) for _ in range(many)]
    notes = [plain_note(chance, keys) if plain else some_note(chance, keys, most) for _ in parts]
    return sketch_of(*notes, weights=[Ratio(part, sum(parts)) for part in parts])


def some_question(chance, keys, degree=3, terms=5):
    """Any question."""
    found = []
    for _ in range(chance.randint(0, terms)):
        number = Ratio(chance.randint(-4, 4), chance.randint(1, 4))
        found.append((number, [chance.choice(keys) for _ in range(chance.randint(0, degree))]))
    return Question(found)


def some_keys(chance, most=4):
    """The first keys of the alphabet, one or more."""
    return list("abcdef"[:chance.randint(1, most)])


def cases(seed, many):
    """So many sources of chance, the same ones each time."""
    return [random.Random(1000 * seed + at) for at in range(many)]


def tables_up_to(keys, most, least=0):
    """All tables over keys with each number from least to most."""
    return [Table(dict(zip(keys, numbers))) for numbers in product(range(least, most + 1), repeat=len(keys))]


def sum_of_counts(table):
    """The sum of the numbers of a table."""
    return sum(table.counts().values())


def reduced(lines):
    """The reduced rows of lists of numbers, by elimination with Fractions: each begins with 1, alone in its place."""
    found = []
    for line in lines:
        line = [Fraction(number) for number in line]
        for at, row in found:
            line = [x - line[at] * y for x, y in zip(line, row)]
        lead = next((at for at, number in enumerate(line) if number), None)
        if lead is not None:
            line = [number / line[lead] for number in line]
            found = [(at, [x - row[lead] * y for x, y in zip(row, line)]) for at, row in found]
            found.append((lead, line))
    return [row for _, row in sorted(found)]


def named(keys):
    """Questions for keys of one letter, in a list."""
    return [Question.of_key(key) for key in keys]


def subsets(names):
    """All sets of names but the empty one, as sorted tuples, by length and then as tuples."""
    names = sorted(names)
    found = [tuple(name for at, name in enumerate(names) if bits >> at & 1) for bits in range(1, 1 << len(names))]
    return sorted(found, key=lambda some: (len(some), some))
