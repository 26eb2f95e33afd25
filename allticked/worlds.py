"""Worlds: which facts a row has, when it is looked at, and what can happen to it."""

from allticked.effects import is_change, own_copy, state_behind, suits
from allticked.errors import BadCount, BadEvent, BadFormula, BadName, BadSpan, BadState, NoEvent, NoMoment, NoWord
from allticked.formulas import known_formula
from allticked.names import is_name
from allticked.orders import is_choice, subsets


class World:
    """The facts and moments of a row, the events, and the states that it can begin in.

    What all states become by all events is worked out once, since there are few of both.
    """

    def __init__(self, facts, moments, events, spans=None, first="all"):
        self.facts = tuple(facts)
        self.moments = tuple(moments)
        check_names(self.facts + self.moments)
        if not self.moments:
            raise BadCount(0)
        self.events = read_events(events, self.facts)
        self.spans = read_spans(spans, self.moments, self.event_names())
        self.first = known_formula(first, [*self.facts, "there"])
        self.states = [None] + subsets(self.facts)
        self.moves = {name: moves_of(self, when, effect) for name, when, effect in self.events}
        self.beginnings = [state for state in self.states if self.first.holds(words_now(state))]
        self.likeness = (self.facts, self.moments, self.event_names(), self.moves, self.spans, self.beginnings)

    def event_names(self):
        """List the names of the events."""
        return [name for name, when, effect in self.events]

    def all_states(self):
        """List all states: None, then those of fewer facts first."""
        return list(self.states)

    def begins(self):
        """List the states that a row can have at the first moment."""
        return list(self.beginnings)

    def can(self, state, event):
        """Tell whether an event can happen in a state, if its span lets it."""
        before = read_state(self, state)
        return before in self.moves[read_event_name(self, event)]

    def after(self, state, event):
        """Tell the state behind an event: the same one where it cannot happen."""
        before = read_state(self, state)
        return self.moves[read_event_name(self, event)].get(before, before)

    def leads(self, state, moment):
        """List the states that a row of this state can have when a moment begins."""
        before = read_state(self, state)
        ways = ways_from(self, before, read_later_moment(self, moment))
        return [reached for reached in self.states if reached in ways]

    def way(self, state, other, moment):
        """List the fewest events that lead from one state to another ahead of a moment, or None."""
        before = read_state(self, state)
        behind = read_state(self, other)
        return ways_from(self, before, read_later_moment(self, moment)).get(behind)

    def span(self, moment):
        """List the events that can happen between the moment ahead of this one and it."""
        return list(self.spans[read_later_moment(self, moment)])

    def until(self, moment):
        """Tell the world without the moments behind this one."""
        kept = self.moments[:self.moments.index(read_moment(self, moment)) + 1]
        spans = {later: self.spans[later] for later in kept[1:]}
        return World(self.facts, kept, self.events, spans, self.first)

    def __eq__(self, other):
        return isinstance(other, World) and self.likeness == other.likeness


def check_names(names):
    """Refuse the first thing that is no name or stood before."""
    for at, name in enumerate(names):
        if not is_name(name) or name in names[:at]:
            raise BadName(name)


def read_events(events, facts):
    """List the events as triples of this package's own."""
    told = []
    for at, thing in enumerate(events):
        event = read_event(thing, facts)
        if event is None or event[0] in [name for name, when, effect in told]:
            raise BadEvent(at)
        told.append(event)
    return told


def read_event(thing, facts):
    """Tell the triple of name, Formula and effect that any object is, or None."""
    if not isinstance(thing, (list, tuple)) or len(thing) != 3:
        return None
    name, when, effect = thing
    if not is_name(name) or not (is_change(effect, facts) or is_choice(effect, facts)):
        return None
    try:
        return name, known_formula(when, [*facts, "there"]), own_copy(effect)
    except (BadFormula, NoWord):
        return None


def read_spans(spans, moments, names):
    """Tell for each moment but the first the events that can happen ahead of it, in order."""
    told = {} if spans is None else spans
    for moment in told:
        if moment not in moments[1:] or not is_choice(told[moment], names):
            raise BadSpan(moment)
    return {moment: [name for name in names if name in told.get(moment, names)] for moment in moments[1:]}


def moves_of(world, when, effect):
    """Tell for each state in which an event can happen the one behind it."""
    return {
        state: state_behind(effect, state, world.facts)
        for state in world.states
        if suits(effect, state) and when.holds(words_now(state))
    }


def words_now(state):
    """List the facts and `there` as they hold in a state."""
    return [] if state is None else [*state, "there"]


def words_at(moment, state):
    """List the words that tell what holds in a state as a moment begins."""
    return [f"{word}@{moment}" for word in words_now(state)]


def ways_from(world, state, moment):
    """Tell the way to each state that a row in this state can reach ahead of a moment."""
    return ways_by(state, world.spans[moment], lambda before, name: world.moves[name].get(before, before))


def ways_by(start, names, move):
    """Tell the way to each thing that events of some names can make of one, each by as few as possible.

    Ways of as many events stand by the order of the names, and events are tried in order: so the
    first way that is found is the first one of the shortest.
    """
    ways = {start: []}
    rim = [start]
    while rim:
        found = []
        for before in rim:
            for name in names:
                behind = move(before, name)
                if behind not in ways:
                    ways[behind] = ways[before] + [name]
                    found.append(behind)
        rim = found
    return ways


def read_state(world, thing):
    """Take a state, which may be told by a list."""
    if thing is None:
        return None
    if isinstance(thing, (list, tuple)) and tuple(thing) in world.states:
        return tuple(thing)
    raise BadState(thing)


def read_event_name(world, thing):
    """Take the name of an event."""
    if isinstance(thing, str) and thing in world.moves:
        return thing
    raise NoEvent(thing)


def read_moment(world, thing):
    """Take a moment."""
    if thing in world.moments:
        return thing
    raise NoMoment(thing)


def read_later_moment(world, thing):
    """Take a moment that is not the first one."""
    if thing in world.moments[1:]:
        return thing
    raise NoMoment(thing)
