"""The forms of commands: what a command says, before it is looked at what its names stand for."""

from notesums.errors import InvalidCommand
from notesums.names import is_name
from notesums.questions import is_list_of_names
from notesums.tables import Table
from notesums.texts import integer_of, question_of_text, sum_of_text


class Form:
    """What a command says: an action, a new name, names in use with their kinds, and further values."""

    def __init__(self, action, new=None, needed=(), more=()):
        self.action = action
        self.new = new
        self.needed = needed
        self.more = more


def count_of(word):
    """The COUNT that a word without unnecessary zeros says, or None."""
    number = integer_of(word)
    return None if number is None or number < 0 or str(number) != word else number


def made_form(action, name, words):
    """The form of a made sketch with a count and keys, or None."""
    many, keys = count_of(words[0]), words[1:]
    if many is None or not is_list_of_names(keys) or len(keys) == 0:
        return None
    return Form(action, name, (), (keys, many))


def changed_form(action, name, words):
    """The form of a sketch that is made of one or two others, or None."""
    one, more = words[0], words[1:]
    if not is_name(one) or len(more) == 0:
        return None
    if action == "only":
        return Form(action, name, ((one, "sketch"),), (more,)) if is_list_of_names(more) else None
    if len(more) != 1:
        return None
    if action == "copies":
        many = count_of(more[0])
        return None if many is None else Form(action, name, ((one, "sketch"),), (many,))
    return Form(action, name, ((one, "sketch"), (more[0], "sketch"))) if is_name(more[0]) else None


def sketch_form(words):
    """The form of a command for a new sketch, from the words behind the first one, or None."""
    if len(words) < 3 or not is_name(words[0]):
        return None
    name, action, *more = words
    match action:
        case "sample" | "buckets" | "signed":
            return made_form(action, name, more)
        case "signs":
            return Form(action, name, (), (more,)) if is_list_of_names(more) else None
        case "merged" | "paired" | "copies" | "only":
            return changed_form(action, name, more)
        case _:
            return None


def question_form(rest):
    """The form of a command for a new question, or None."""
    name, _, text = rest.partition(" ")
    question = question_of_text(text)
    return Form("question", name, (), (question,)) if is_name(name) and question is not None else None


def table_form(rest):
    """The form of a command for a new table, or None."""
    name, _, text = rest.partition(" ")
    counts = sum_of_text(text)
    return Form("table", name, (), (Table(counts),)) if is_name(name) and counts is not None else None


def asking_form(action, words):
    """The form of a question about names in use, or None."""
    if not is_list_of_names(words) or len(words) != (3 if action == "shows" else 2):
        return None
    if action == "shows":
        return Form(action, None, ((words[0], "sketch"), (words[2], "table")), (words[1],))
    if action == "value":
        return Form(action, None, ((words[0], "question"), (words[1], "table")))
    return Form(action, None, ((words[0], "sketch"), (words[1], "question")))


def form_or_none(command):
    """The form of a command, or None."""
    word, _, rest = command.partition(" ")
    match word:
        case "sketch":
            return sketch_form(rest.split(" "))
        case "question":
            return question_form(rest)
        case "table":
            return table_form(rest)
        case "drop":
            return Form(word, None, ((rest, "any"),)) if is_name(rest) else None
        case "can" | "copies" | "remainder" | "sets" | "rule" | "shows" | "value":
            return asking_form(word, rest.split(" "))
        case _:
            return None


def form_of(command):
    """The form of a command; InvalidCommand for any value that has none."""
    form = form_or_none(command) if isinstance(command, str) else None
    if form is None:
        raise InvalidCommand(command)
    return form
