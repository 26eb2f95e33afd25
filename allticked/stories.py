"""Stories: what comes of one row, by its events and by the steps of a keeping."""

from allticked.errors import BadCount, BadState, NoEvent, NoStep
from allticked.firsts import first_paths
from allticked.formulas import known_formula
from allticked.paths import pairs_by_moment, paths_of
from allticked.steps import end_at
from allticked.worlds import read_state, words_at


class Story:
    """What comes of one row. What it tells of words hangs on none of the lists that it shows."""

    def __init__(self, keeping, states, events, left_out, held):
        self.keeping = keeping
        self.states = states
        self.events = [list(names) for names in events]
        self.left_out = list(left_out)
        self.held = held

    def words(self):
        """List the words of the keeping that hold."""
        return words_by_now(self.keeping.world, self.states, self.held)

    def holds(self, formula):
        """Tell whether a formula holds."""
        return known_formula(formula, self.keeping.words()).holds(self.words())

    def __eq__(self, other):
        return (
            isinstance(other, Story) and self.states == other.states and self.events == other.events
            and self.left_out == other.left_out and self.keeping == other.keeping
        )


def words_by_now(world, states, held):
    """List the words that hold of a row, by the states of the moments that have begun and the steps that hold."""
    told = []
    for moment, state in zip(world.moments, states):
        told.extend(words_at(moment, state))
    return told + list(held)


def run(keeping, state, events, left=()):
    """Tell the story of a row that begins in a state, by what happens to it and where it is left out."""
    now = check_run(keeping, state, events, left)
    world = keeping.world
    states = []
    left_out = ()
    held = ()
    for moment, names in zip(world.moments, [*events, []]):
        states.append(now)
        now, held, more = end_at(keeping, moment, now, held, left)
        left_out = left_out + more
        for name in names:
            now = world.after(now, name)
    return Story(keeping, tuple(states), events, left_out, held)


def check_run(keeping, state, events, left):
    """Refuse what cannot be run, and tell the state as this package's own."""
    world = keeping.world
    begun = read_state(world, state)
    if begun not in world.beginnings:
        raise BadState(state)
    if len(events) + 1 != len(world.moments):
        raise BadCount(len(events))
    for deed in left:
        if deed not in keeping.stopping():
            raise NoStep(deed)
    for moment, names in zip(world.moments[1:], events):
        for name in names:
            if name not in world.spans[moment]:
                raise NoEvent(name)
    return begun


def stories(keeping):
    """List all unlike stories, each with as few events as possible."""
    return [story_of_path(keeping, path) for path in paths_of(keeping)]


def story_of_path(keeping, path):
    """Tell the story of a path."""
    many, places, taken, states, events, left_out, held = path
    return Story(keeping, states, events, left_out, held)


def harmed(keeping, harm):
    """Tell the first story in which a formula holds, or None."""
    formula = known_formula(harm, keeping.words())
    path = first_paths(keeping, [formula]).get((True,))
    return None if path is None else story_of_path(keeping, path)


def reached(keeping):
    """Tell for each moment the states that rows can have as it begins, with the steps that hold then."""
    return pairs_by_moment(keeping)
