"""A live list: rows to which events happen and deeds are done, moment by moment."""

from allticked.counts import check_known
from allticked.errors import BadName, BadState, CannotHappen, NoMoment, NoName, NoStep, NotDone
from allticked.names import is_name
from allticked.steps import end_at, names_of, steps_at
from allticked.stories import Story, words_by_now
from allticked.worlds import read_state


class Row:
    """A row by now: its states as moments began, what happened ahead of the next ones, and what came of it."""

    def __init__(self, state, states, events, stops, held, left_out):
        self.state = state
        self.states = states
        self.events = events
        self.stops = stops
        self.held = held
        self.left_out = left_out


class Live:
    """A list of rows that live.

    What is done to it changes neither its rows nor its past, but puts others in their place: so
    what a copy has, and what is kept to be taken back, stays as it is.
    """

    def __init__(self, keeping, rows):
        for name in rows:
            if not is_name(name):
                raise BadName(name)
        begun = {name: read_first_state(keeping.world, rows[name]) for name in rows}
        self.keeping = keeping
        self.now = keeping.world.moments[0]
        self.rows = {name: begin(keeping, self.now, Row(begun[name], (), (), (), (), ())) for name in sorted(begun)}
        self.past = ()

    def names(self):
        """List the names of the rows."""
        return list(self.rows)

    def state_of(self, name):
        """Tell the present state of a row."""
        return self.row_of(name).state

    def holds(self, name):
        """List the words that hold of a row by now."""
        row = self.row_of(name)
        return words_by_now(self.keeping.world, row.states, row.held)

    def struck(self, deed):
        """List the names of the rows that a deed has taken by now."""
        if deed not in self.keeping.deeds():
            raise NoStep(deed)
        return [name for name in self.rows if deed in self.rows[name].held]

    def happens(self, name, event):
        """Let an event happen to a row."""
        row = self.row_of(name)
        world = self.keeping.world
        later = self.later_moments()
        if not later or event not in world.spans[later[0]] or row.state not in world.moves[event]:
            raise CannotHappen(event)
        events = (*row.events[:-1], (*row.events[-1], event))
        state = world.moves[event][row.state]
        self.put({name: Row(state, row.states, events, row.stops, row.held, row.left_out)}, self.now)

    def stop(self, name, deed):
        """Say that a row is to be left out at a deed that is still to come."""
        row = self.row_of(name)
        if deed not in self.keeping.stopping() or self.keeping.moment_of(deed) not in self.later_moments():
            raise NoStep(deed)
        stops = (*row.stops, deed)
        self.put({name: Row(row.state, row.states, row.events, stops, row.held, row.left_out)}, self.now)

    def go(self):
        """Begin the next moment, do its steps, and tell what its deeds took."""
        later = self.later_moments()
        if not later:
            raise NoMoment(self.now)
        self.put({name: begin(self.keeping, later[0], self.rows[name]) for name in self.rows}, later[0])
        steps = steps_at(self.keeping, self.now)
        return {deed: self.struck(deed) for deed in names_of([step for step in steps if step[0] == "deed"])}

    def story_of(self, name):
        """Tell the story of a row, behind the last moment's steps."""
        self.check_done()
        row = self.row_of(name)
        return Story(self.keeping, row.states, row.events[:-1], row.left_out, row.held)

    def totals(self, counts):
        """List the totals of counts over all rows, behind the last moment's steps."""
        self.check_done()
        check_known(self.keeping, counts)
        parts = [(self.story_of(name), 1) for name in self.rows]
        return [count.total(parts) for count in counts]

    def undo(self):
        """Take back what was done last; tell whether there was something."""
        if not self.past:
            return False
        self.now, self.rows, self.past = self.past
        return True

    def copy(self):
        """Tell another list that is as this one is."""
        other = Live(self.keeping, {})
        other.now, other.rows, other.past = self.now, self.rows, self.past
        return other

    def tried(self, work):
        """Tell what a function returns of this list, which is then as it was ahead of it."""
        now, rows, past = self.now, self.rows, self.past
        try:
            return work(self)
        finally:
            self.now, self.rows, self.past = now, rows, past

    def row_of(self, name):
        """Tell the row of a name."""
        if name not in self.names():
            raise NoName(name)
        return self.rows[name]

    def later_moments(self):
        """List the moments that are still to come."""
        moments = self.keeping.world.moments
        return moments[moments.index(self.now) + 1:]

    def check_done(self):
        """Refuse what can be told of the last moment alone."""
        if self.later_moments():
            raise NotDone(self.now)

    def put(self, rows, now):
        """Put rows in the place of others at a moment, so that this can be taken back."""
        self.past = (self.now, self.rows, self.past)
        self.now = now
        self.rows = {name: rows.get(name, self.rows[name]) for name in self.rows}


def read_first_state(world, thing):
    """Take a state that a row can have at the first moment."""
    state = read_state(world, thing)
    if state not in world.beginnings:
        raise BadState(thing)
    return state


def begin(keeping, moment, row):
    """Tell a row behind the steps of a moment that begins."""
    state, held, left_out = end_at(keeping, moment, row.state, row.held, row.stops)
    states = (*row.states, row.state)
    return Row(state, states, (*row.events, ()), row.stops, held, row.left_out + left_out)
