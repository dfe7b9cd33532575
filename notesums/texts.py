"""Texts of tables, sums, notes, sketches and rules, and what is read from texts.

What is read is written again: so each text is read only if it is exactly the text of something.
"""

from notesums.errors import InvalidText
from notesums.formulas import is_formula
from notesums.limits import KEYS, SEEDS, SUMS, keys_of
from notesums.names import is_name
from notesums.notes import Note
from notesums.questions import Question
from notesums.ratios import Ratio
from notesums.rules import Rule
from notesums.sketches import Sketch
from notesums.tables import Table

DIGITS = "0123456789"


def sum_text(row):
    """The text of a sum: `{a: 3, b: -1}`."""
    entries = [f"{key}: {row[key]}" for key in sorted(list(row)) if row[key] != 0]
    return "{" + ", ".join(entries) + "}"


def table_text(table):
    """The text of a table: `{a: 3, b: -1}`."""
    return sum_text(table.counts())


def note_text(note):
    """The text of a note: `[{a: 1, b: 1}; {a: 1, b: -1}]`."""
    return "[" + "; ".join([sum_text(row) for row in note.sums()]) + "]"


def seed_text(name, weight, note):
    """The line of a seed, without its line feed."""
    return f"seed {name} {weight} {note_text(note)}"


def sketch_text(sketch):
    """The text of a sketch, a line for each seed."""
    return "".join([seed_text(name, weight, note) + "\n" for name, weight, note in sketch.walk()])


def rule_text(rule):
    """The text of a rule, a line for each seed."""
    return "".join([f"rule {name} {rule.formula(name)}\n" for name in rule.seeds()])


def integer_of(word):
    """The INTEGER for digits, perhaps behind a minus, or None."""
    digits = word.removeprefix("-")
    if digits == "" or not all([sign in DIGITS for sign in digits]):
        return None
    return int(word)


def ratio_of(word):
    """The Ratio for one integer or for two with a `/` between them, or None."""
    top, stroke, bottom = word.partition("/")
    numbers = integer_of(top), integer_of(bottom) if stroke else 1
    if None in numbers or numbers[1] == 0:
        return None
    return Ratio(numbers[0], numbers[1])


def inside(text, begin, end):
    """What stands between two signs at the beginning and at the end of a text, or None."""
    if len(text) < 2 or text[0] != begin or text[-1] != end:
        return None
    return text[1:-1]


def parted(text, between):
    """The parts of a text; an empty text has none."""
    return text.split(between) if text else []


def term_of(word, sign):
    """The term for a number and keys with `*` between them, or None."""
    parts = word.split("*")
    number = ratio_of(parts[0])
    keys = parts if number is None else parts[1:]
    if not all([is_name(key) for key in keys]):
        return None
    return (Ratio(sign) if number is None else number * sign), keys


def terms_of(text):
    """The terms of the text of a question, or None."""
    words = text.removeprefix("-").split(" ")
    signs = ["-" if text.startswith("-") else "+"] + words[1::2]
    found = []
    for sign, word in zip(signs, words[::2]):
        term = term_of(word, -1 if sign == "-" else 1)
        if term is None:
            return None
        found.append(term)
    return found


def question_of_text(text):
    """The question whose text it is, or None."""
    terms = terms_of(text)
    if terms is None:
        return None
    question = Question(terms)
    return question if str(question) == text else None


def sum_of_text(text):
    """The sum whose text it is, or None."""
    entries = inside(text, "{", "}")
    if entries is None:
        return None
    found = {}
    for entry in parted(entries, ", "):
        key, _, word = entry.partition(": ")
        number = integer_of(word)
        if not is_name(key) or number is None:
            return None
        found[key] = number
    return found if sum_text(found) == text else None


def note_of_text(text):
    """The note whose text it is, or None."""
    entries = inside(text, "[", "]")
    if entries is None:
        return None
    sums = [sum_of_text(entry) for entry in parted(entries, "; ")]
    return None if None in sums or len(sums) > SUMS else Note(sums)


def seed_of_line(line):
    """The tuple (name, weight, note) of a line of a sketch, or None."""
    words = line.split(" ", 3)
    if len(words) != 4 or not is_name(words[1]):
        return None
    weight, note = ratio_of(words[2]), note_of_text(words[3])
    if weight is None or note is None or seed_text(words[1], weight, note) != line:
        return None
    return words[1], weight, note


def formula_of_line(line):
    """The tuple (name, formula) of a line of a rule, or None."""
    words = line.split(" ", 2)
    if len(words) != 3 or words[0] != "rule" or not is_name(words[1]):
        return None
    formula = question_of_text(words[2])
    return (words[1], formula) if is_formula(formula, SUMS) else None


def check_string(text):
    """Raises InvalidText unless a value is a string."""
    if not isinstance(text, str):
        raise InvalidText(None)


def read_question(text):
    """The question whose text it is."""
    check_string(text)
    question = question_of_text(text)
    if question is None:
        raise InvalidText(1)
    return question


def read_table(text):
    """The table whose text it is."""
    check_string(text)
    counts = sum_of_text(text)
    if counts is None:
        raise InvalidText(1)
    return Table(counts)


def read_note(text):
    """The note whose text it is."""
    check_string(text)
    note = note_of_text(text)
    if note is None:
        raise InvalidText(1)
    return note


def total_of(seeds):
    """The sum of the weights of seeds."""
    weights = [weight for _, weight, _ in seeds]
    return Ratio.total(*weights)


def begins_sketch(seeds):
    """Whether a list of seeds, all of which but the last one begin a sketch, begins one."""
    name, weight, _ = seeds[-1]
    if weight.sign != 1 or name in [other for other, _, _ in seeds[:-1]]:
        return False
    # Where less than 1 is left, a seed with an empty note can still follow, unless twelve are there already.
    left = Ratio(1) - total_of(seeds)
    if left.sign == -1 or (left.sign == 1 and len(seeds) >= SEEDS):
        return False
    return len(keys_of([note for _, _, note in seeds])) <= KEYS


def read_sketch(text):
    """The sketch whose text it is."""
    check_string(text)
    parts = text.split("\n")
    *lines, rest = parts
    seeds = []
    for line in lines:
        seed = seed_of_line(line)
        if seed is None or not begins_sketch([*seeds, seed]):
            raise InvalidText(len(seeds) + 1)
        seeds.append(seed)
    if rest != "" or total_of(seeds) != Ratio(1):
        raise InvalidText(len(lines) + 1)
    return Sketch(seeds)


def read_rule(text):
    """The rule whose text it is."""
    check_string(text)
    parts = text.split("\n")
    *lines, rest = parts
    formulas = {}
    for line in lines:
        found = formula_of_line(line)
        if found is None or not all([name < found[0] for name in formulas]):
            raise InvalidText(len(formulas) + 1)
        formulas[found[0]] = found[1]
    if rest != "":
        raise InvalidText(len(lines) + 1)
    return Rule(formulas)
