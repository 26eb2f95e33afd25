"""Views that rows bring to a deed: their states as the step comes, and the earlier steps that hold."""

from allticked.effects import state_behind
from allticked.errors import NoStep
from allticked.keepings import Keeping
from allticked.paths import HELD, STATES, in_order
from allticked.steps import steps_at
from allticked.worlds import words_now


def keeping_ahead(keeping, deed):
    """Tell the keeping of the steps ahead of a deed, in the world up to its moment."""
    if deed not in keeping.deeds():
        raise NoStep(deed)
    world = keeping.world.until(keeping.moment_of(deed))
    return Keeping(world, keeping.steps[:keeping.names().index(deed)])


def words_of_views(ahead):
    """List the words that tell views apart, in stories of the keeping ahead of a deed."""
    moment = ahead.world.moments[-1]
    return [f"{word}@{moment}" for word in [*ahead.world.facts, "there"]] + ahead.names()


def view_of(ahead, path):
    """Tell the view that a path of the keeping ahead of a deed brings to it."""
    state = path[STATES][-1]
    for step in steps_at(ahead, ahead.world.moments[-1]):
        if step[0] == "deed" and step[2] in path[HELD]:
            state = state_behind(step[4], state, ahead.world.facts)
    return state, path[HELD]


def by_views(ahead, told):
    """Tell the same of views, but in the order of these."""
    return {view: told[view] for view in in_order(ahead, list(told))}


def case_of(view):
    """List the words of the deed's formula that hold in a view."""
    state, names = view
    return [*words_now(state), *names]
