"""The errors of the package. Each attribute is what the constructor was passed."""


class NotesumsError(ValueError):
    """A value that is not valid, or a limit that is passed."""


class InvalidNumber(NotesumsError):
    """A value that is no number of the kind that is needed."""

    def __init__(self, value):
        self.value = value


class InvalidName(NotesumsError):
    """A value that is no NAME."""

    def __init__(self, value):
        self.value = value


class InvalidTable(NotesumsError):
    """A value that is no table, and makes none."""

    def __init__(self, value):
        self.value = value


class InvalidTerms(NotesumsError):
    """The position of the first term that is none; None if there is no list."""

    def __init__(self, position):
        self.position = position


class InvalidQuestion(NotesumsError):
    """A value that is no question."""

    def __init__(self, value):
        self.value = value


class InvalidCount(NotesumsError):
    """A value that is no COUNT of the size that is needed."""

    def __init__(self, value):
        self.value = value


class InvalidSum(NotesumsError):
    """The position of the first sum that is none; None if there is no list."""

    def __init__(self, position):
        self.position = position


class InvalidSeeds(NotesumsError):
    """The position of the first seed that is wrong; None if all of them are."""

    def __init__(self, position):
        self.position = position


class InvalidWeight(NotesumsError):
    """The seed whose weight is wrong; None if the weights do not add up."""

    def __init__(self, name):
        self.name = name


class InvalidKeys(NotesumsError):
    """A value that is no list or tuple of keys as needed."""

    def __init__(self, value):
        self.value = value


class InvalidRule(NotesumsError):
    """A value that is no rule as needed."""

    def __init__(self, value):
        self.value = value


class InvalidBox(NotesumsError):
    """A value that is no BOX."""

    def __init__(self, value):
        self.value = value


class InvalidStack(NotesumsError):
    """A value that is no STACK."""

    def __init__(self, value):
        self.value = value


class InvalidNames(NotesumsError):
    """A value that is no dict of new names as needed."""

    def __init__(self, value):
        self.value = value


class InvalidTables(NotesumsError):
    """The position of the first element that is wrong; None if there is no list."""

    def __init__(self, position):
        self.position = position


class InvalidRenaming(NotesumsError):
    """A value that is no RENAMING."""

    def __init__(self, value):
        self.value = value


class InvalidKept(NotesumsError):
    """A value that is no kept note as needed."""

    def __init__(self, value):
        self.value = value


class InvalidText(NotesumsError):
    """The first line that is wrong; None if there is no string."""

    def __init__(self, line):
        self.line = line


class InvalidClaim(NotesumsError):
    """A value that is no CLAIM."""

    def __init__(self, value):
        self.value = value


class InvalidCommand(NotesumsError):
    """A value that has not the form of a command."""

    def __init__(self, value):
        self.value = value


class OtherSeeds(NotesumsError):
    """The first seed that another sketch does not have with the same weight."""

    def __init__(self, name):
        self.name = name


class NotPlain(NotesumsError):
    """The first seed whose note is not plain."""

    def __init__(self, name):
        self.name = name


class NotAnswered(NotesumsError):
    """A question that no rule of the kind that is needed answers."""

    def __init__(self, value):
        self.value = value


class TooMany(NotesumsError):
    """More of a kind than the limit."""

    def __init__(self, kind, limit):
        self.kind = kind
        self.limit = limit


class MissingError(LookupError):
    """A name that stands for nothing."""


class UnknownSeed(MissingError):
    """A value that is not the name of a seed."""

    def __init__(self, value):
        self.value = value


class UnknownName(MissingError):
    """A value that is not a name in use for what is needed."""

    def __init__(self, value):
        self.value = value


class StateError(RuntimeError):
    """A call that cannot be performed as things stand."""


class NameTaken(StateError):
    """A name that is in use."""

    def __init__(self, name):
        self.name = name


class NoRule(StateError):
    """A kept note without a rule is asked for an answer."""


class NothingToUndo(StateError):
    """No command is left to be taken back."""


class DividedByZero(StateError):
    """A number is divided by 0."""
