"""Ready keepings: the usual ways to keep what was selected, and what two of them take together."""

from allticked.effects import is_change
from allticked.errors import BadCount, BadEffect, NameInUse, NoMoment, UnlikeDeeds, UnlikeWorlds
from allticked.formulas import Formula, known_formula
from allticked.keepings import Keeping
from allticked.worlds import read_moment


def these(world, tick, done, wanted, effect):
    """Take the rows that were wanted at the tick."""
    check_moments(world, tick, done)
    kept = known_now(world, wanted)
    return ready(world, [("mark", tick, "kept", kept)], done, Formula("kept"), effect)


def by_question(world, done, wanted, effect):
    """Take the rows that are wanted when the deed is done."""
    return ready(world, [], read_moment(world, done), known_now(world, wanted), effect)


def all_but(world, tick, done, wanted, out, effect):
    """Take the rows that are wanted when the deed is done, but for those that were unticked."""
    check_moments(world, tick, done)
    asked = known_now(world, wanted)
    unticked = known_now(world, out)
    return ready(world, [("mark", tick, "out", unticked)], done, asked & ~Formula("out"), effect)


def of_then(world, tick, done, wanted, effect):
    """Take the rows that are wanted when the deed is done, of those that were there at the tick."""
    check_moments(world, tick, done)
    asked = known_now(world, wanted)
    return ready(world, [("mark", tick, "then", "there")], done, asked & Formula("then"), effect)


def both_times(world, tick, done, wanted, effect):
    """Take the rows that were wanted at the tick and still are when the deed is done."""
    check_moments(world, tick, done)
    asked = known_now(world, wanted)
    return ready(world, [("mark", tick, "kept", asked)], done, asked & Formula("kept"), effect)


def check_moments(world, tick, done):
    """Refuse what is no moment, and a deed that is not behind the tick."""
    ahead = world.moments.index(read_moment(world, tick))
    if read_moment(world, done) not in world.moments[ahead + 1:]:
        raise NoMoment(done)


def known_now(world, formula):
    """Take a formula of the facts and `there`."""
    return known_formula(formula, [*world.facts, "there"])


def ready(world, marks, done, formula, effect):
    """Tell the keeping of some marks and the deed, if its effect and its names can be."""
    if not is_change(effect, world.facts):
        raise BadEffect(effect)
    for name in [mark[2] for mark in marks] + ["taken"]:
        if name in world.facts + world.moments:
            raise NameInUse(name)
    return Keeping(world, [*marks, ("deed", done, "taken", formula, effect)])


def joined(one, other, word):
    """Tell the keeping whose deed takes what both deeds take, one of them, or just the first."""
    check_alike(one, other)
    marks = marks_ahead(one)
    more = marks_ahead(other)
    for mark in more:
        if mark[2] in one.names():
            raise NameInUse(mark[2])
    moments = one.world.moments
    name = one.deeds()[0]
    deed = ("deed", one.moment_of(name), name, joined_formula(one, other, word), one.effect_of(name))
    # Marks of one moment stay as they stand, so those of the first come first.
    return Keeping(one.world, [*sorted(marks + more, key=lambda step: moments.index(step[1])), deed])


def check_alike(one, other):
    """Refuse two keepings that cannot be joined."""
    if not one.world == other.world:
        raise UnlikeWorlds()
    for keeping in (one, other):
        if len(keeping.deeds()) != 1:
            raise BadCount(len(keeping.deeds()))
    if what_is_done(one) != what_is_done(other) or one.stopping() or other.stopping():
        raise UnlikeDeeds()


def what_is_done(keeping):
    """Tell the moment and the effect of the only deed."""
    name = keeping.deeds()[0]
    return keeping.moment_of(name), keeping.effect_of(name)


def marks_ahead(keeping):
    """List the marks that stand ahead of the only deed."""
    return keeping.steps[:keeping.names().index(keeping.deeds()[0])]


def joined_formula(one, other, word):
    """Tell the formula of both deeds, joined by a word."""
    first = one.formula(one.deeds()[0])
    second = other.formula(other.deeds()[0])
    if word == "and":
        return first & second
    return first | second if word == "or" else first & ~second
