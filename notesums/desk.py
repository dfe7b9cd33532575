"""A desk: sketches, questions and tables by names, and commands about them."""

from notesums.answers import can_answer, remainder, rule_for
from notesums.commands import form_of
from notesums.copies import least_copies
from notesums.enough import least_sets
from notesums.errors import InvalidCommand, NameTaken, NothingToUndo, UnknownName
from notesums.makers import buckets, sample, signed_buckets, signs
from notesums.questions import Question
from notesums.sketches import Sketch
from notesums.tables import Table
from notesums.texts import rule_text


def is_of_kind(value, kind):
    """Whether what a name stands for is of the kind that is needed."""
    match kind:
        case "sketch":
            return isinstance(value, Sketch)
        case "question":
            return isinstance(value, Question)
        case "table":
            return isinstance(value, Table)
        case _:
            return value is not None


def held_as(held, name, kind):
    """What a name stands for; UnknownName if it is not of the kind that is needed."""
    value = held.get(name)
    if not is_of_kind(value, kind):
        raise UnknownName(name)
    return value


def made_by(action, found, more):
    """The new sketch, question or table."""
    match action:
        case "sample":
            return sample(*more)
        case "buckets":
            return buckets(*more)
        case "signed":
            return signed_buckets(*more)
        case "signs":
            return signs(*more)
        case "merged":
            return found[0].merged(found[1])
        case "paired":
            return found[0].paired(found[1])
        case "copies":
            return found[0].copies(more[0])
        case "only":
            return found[0].only(more[0])
        case _:
            return more[0]


def copies_answer(sketch, question):
    """The answer how many copies are needed."""
    many = least_copies(sketch, question)
    return "never" if many is None else str(many)


def sets_answer(sketch, question):
    """The answer which sets of seeds are the least ones."""
    sets = least_sets(sketch, question)
    return " ".join(["+".join(seeds) for seeds in sets]) if sets else "none"


def rule_answer(sketch, question):
    """The answer by which rule."""
    rule = rule_for(sketch, question)
    return "none" if rule is None else rule_text(rule)


def shows_answer(sketch, table, seed):
    """The answer what a seed shows."""
    numbers = sketch.shows(seed, table)
    return ", ".join([str(number) for number in numbers]) if numbers else "nothing"


def answer_to(action, found, more):
    """The answer to a question about what is held."""
    match action:
        case "can":
            return "yes" if can_answer(*found) else "no"
        case "copies":
            return copies_answer(*found)
        case "remainder":
            return str(remainder(*found))
        case "sets":
            return sets_answer(*found)
        case "rule":
            return rule_answer(*found)
        case "shows":
            return shows_answer(found[0], found[1], more[0])
        case _:
            return str(found[0].at(found[1]))


def performed(held, command):
    """The tuple of the answer to a command and of what is held then, None if the command changes nothing."""
    form = form_of(command)
    if form.new in held:
        raise NameTaken(form.new)
    found = [held_as(held, name, kind) for name, kind in form.needed]
    if form.action == "drop":
        dropped = form.needed[0][0]
        return "done", {name: held[name] for name in held if name != dropped}
    if form.new is None:
        return answer_to(form.action, found, form.more), None
    return "done", {**held, form.new: made_by(form.action, found, form.more)}


class Desk:
    """What names stand for, and the commands that made it so."""

    def __init__(self):
        # The tuples of each command that changed something, and what was held then.
        self._steps = []

    def _held(self):
        return self._steps[-1][1] if self._steps else {}

    def _performed(self, commands):
        if not isinstance(commands, (list, tuple)):
            raise InvalidCommand(commands)
        answers, steps, held = [], [], self._held()
        for command in commands:
            answer, after = performed(held, command)
            answers.append(answer)
            # That nothing changes cannot be told from the answer: a remainder can be the key `done`.
            if after is not None:
                held = after
                steps.append((command, held))
        return answers, steps

    def do(self, command):
        """The answer to a command, which is performed."""
        return self.do_all([command])[0]

    def do_all(self, commands):
        """The list of the answers to commands, which are performed, all or none of them."""
        answers, steps = self._performed(commands)
        self._steps.extend(steps)
        return answers

    def undo(self):
        """Takes back the last command that changed something."""
        if not self._steps:
            raise NothingToUndo()
        self._steps.pop()

    def log(self):
        """The list of the commands that changed something and were not taken back."""
        return [command for command, _ in self._steps]

    def tried(self, commands):
        """The list of the answers to commands, without an effect."""
        answers, _ = self._performed(commands)
        return answers

    def names(self):
        """The sorted list of the names in use."""
        return sorted(list(self._held()))

    def __eq__(self, other):
        # What names stand for comes from the commands alone.
        return isinstance(other, Desk) and self.log() == other.log()
