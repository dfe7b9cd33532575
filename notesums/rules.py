"""Rules: a formula for each seed of a sketch."""

from notesums.errors import InvalidNumber, InvalidRule, UnknownSeed
from notesums.formulas import formula_at, is_formula, put_sums
from notesums.limits import SUMS
from notesums.names import is_name
from notesums.questions import Question
from notesums.ratios import Ratio, is_number


def is_formulas(value):
    """Whether any value is a dict from NAMES to formulas."""
    if not isinstance(value, dict):
        return False
    return all([is_name(seed) and is_formula(formula, SUMS) for seed, formula in value.items()])


class Rule:
    """A formula for each of some seeds, which do not change."""

    def __init__(self, formulas):
        if not is_formulas(formulas):
            raise InvalidRule(formulas)
        self._formulas = {seed: formulas[seed] for seed in sorted(formulas)}

    def formula(self, seed):
        """The formula of a seed."""
        if not isinstance(seed, str) or seed not in self._formulas:
            raise UnknownSeed(seed)
        return self._formulas[seed]

    def seeds(self):
        """The sorted list of the seeds."""
        return list(self._formulas)

    @property
    def degree(self):
        """The greatest degree of the formulas, -1 without formulas."""
        return max([self._formulas[seed].degree for seed in self._formulas], default=-1)

    def _same_seeds(self, other):
        return isinstance(other, Rule) and list(other._formulas) == list(self._formulas)

    def __add__(self, other):
        if not self._same_seeds(other):
            raise InvalidRule(other)
        return Rule({seed: self._formulas[seed] + other._formulas[seed] for seed in self._formulas})

    def __sub__(self, other):
        if not self._same_seeds(other):
            raise InvalidRule(other)
        return Rule({seed: self._formulas[seed] - other._formulas[seed] for seed in self._formulas})

    def __mul__(self, other):
        if not is_number(other):
            raise InvalidNumber(other)
        return Rule({seed: self._formulas[seed] * other for seed in self._formulas})

    def fits(self, sketch):
        """Whether it has a formula for just the seeds of a sketch, with keys for their sums only."""
        if self.seeds() != sorted(sketch.seeds()):
            return False
        return all([is_formula(self._formulas[seed], len(sketch.note(seed))) for seed in self._formulas])

    def __eq__(self, other):
        return isinstance(other, Rule) and self._formulas == other._formulas

    def __repr__(self):
        texts = {seed: str(self._formulas[seed]) for seed in self._formulas}
        return f"Rule({texts!r})"


def check_rule(sketch, rule):
    """Raises InvalidRule unless a rule is one for the sketch."""
    if not rule.fits(sketch):
        raise InvalidRule(rule)


def answers_of(sketch, rule, table):
    """The dict from the seeds to the values of their formulas for a table; InvalidTable for what is none."""
    return {seed: formula_at(rule.formula(seed), note.shows(table)) for seed, _, note in sketch.walk()}


def mean_of(sketch, rule):
    """The mean of a rule."""
    check_rule(sketch, rule)
    mean = Question()
    for seed, weight, note in sketch.walk():
        mean = mean + put_sums(rule.formula(seed), note.questions()) * weight
    return mean


def mean_at(sketch, rule, table):
    """The value of the mean of a rule at a table."""
    check_rule(sketch, rule)
    answers = answers_of(sketch, rule, table)
    mean = Ratio(0)
    for seed, weight, _ in sketch.walk():
        mean = mean + weight * answers[seed]
    return mean


def is_rule(sketch, question, value):
    """Whether any value is a Rule for the sketch that answers the question."""
    return isinstance(value, Rule) and value.fits(sketch) and mean_of(sketch, value) == question
