"""Keepings: what is kept of "all selected", and the deeds that are done to it."""

from allticked.effects import own_copy
from allticked.errors import BadStep, NoStep
from allticked.formulas import known_formula
from allticked.steps import names_of, read_step, words_for


class Keeping:
    """The steps that are done in a world, moment by moment.

    They are kept as they are told: tuples of kind, moment, name and formula, of deeds also
    with the effect and with "stops".
    """

    def __init__(self, world, steps):
        self.world = world
        self.steps = read_steps(world, steps)

    def names(self):
        """List the names of the steps."""
        return names_of(self.steps)

    def deeds(self):
        """List the names of the deeds."""
        return names_of([step for step in self.steps if step[0] == "deed"])

    def words(self):
        """List the words that its stories know."""
        facts = [*self.world.facts, "there"]
        return [f"{fact}@{moment}" for moment in self.world.moments for fact in facts] + self.names()

    def formula(self, name):
        """Tell the formula of a step."""
        return self.steps[place_of(self, name)][3]

    def moment_of(self, name):
        """Tell the moment of a step."""
        return self.steps[place_of(self, name)][1]

    def effect_of(self, name):
        """Tell the effect of a deed; None for a mark."""
        step = self.steps[place_of(self, name)]
        return own_copy(step[4]) if step[0] == "deed" else None

    def stopping(self):
        """List the names of the deeds that may be stopped."""
        return names_of([step for step in self.steps if step[5:] == ("stops",)])

    def changed(self, name, formula):
        """Tell the keeping in which a step has another formula."""
        at = place_of(self, name)
        known = known_formula(formula, words_for(self.world, self.steps[:at]))
        step = self.steps[at]
        return Keeping(self.world, [*self.steps[:at], (*step[:3], known, *step[4:]), *self.steps[at + 1:]])

    def __eq__(self, other):
        return isinstance(other, Keeping) and self.world == other.world and self.steps == other.steps


def read_steps(world, steps):
    """List the steps as tuples of this package's own."""
    told = []
    for at, thing in enumerate(steps):
        step = read_step(thing, world, told)
        if step is None:
            raise BadStep(at)
        told.append(step)
    return told


def place_of(keeping, name):
    """Tell where the step of a name stands."""
    for at, step in enumerate(keeping.steps):
        if step[2] == name:
            return at
    raise NoStep(name)
