"""Twins: two stories of one row, by one keeping and by another, that have the same events."""

from allticked.errors import UnlikeWorlds
from allticked.firsts import Looks
from allticked.formulas import known_formula
from allticked.steps import end_at
from allticked.stories import run
from allticked.tables import tables_of, truths_of
from allticked.worlds import ways_by


def worse(one, other, harm):
    """Tell twins of which the first is harmed and the second not, or None."""
    return least_twins(one, other, harm, [(True, False)])


def parting(one, other, wish):
    """Tell twins of which just one wish holds, or None."""
    return least_twins(one, other, wish, [(True, False), (False, True)])


def least_twins(one, other, wish, wanted):
    """Tell the twins with the fewest events for which a formula holds as is wanted, or None."""
    if not one.world == other.world:
        raise UnlikeWorlds()
    formula = known_formula(wish, one.words())
    known_formula(formula, other.words())
    best = None
    for (first, second), told in all_twins(one, other, formula).items():
        if (first, second) in wanted and (best is None or told[0] < best[0]):
            best = told
    if best is None:
        return None
    many, state, events = best
    return run(one, state, events), run(other, state, events)


def all_twins(one, other, formula):
    """Tell for each pair of truths of a formula that twins have the fewest events of such ones.

    What is told of twins is how many events they have, their first state, and the events.
    """
    tables = tables_of([formula])
    rows = {}
    for state in one.world.beginnings:
        side = (state, (), tables)
        rows[(side, side)] = (0, state, ())
    for moment in one.world.moments:
        rows = twins_behind(one, other, moment, formula, rows)
    told = {}
    for (first, second), row in rows.items():
        keep_least(told, (truths_of(first[2])[0], truths_of(second[2])[0]), row)
    return told


def twins_behind(one, other, moment, formula, rows):
    """Tell the least twins behind a moment, by all that their going on hangs on.

    That is for each of both the state, the steps that later steps look at, and the tables.
    """
    first_done = Done(one, moment, formula)
    second_done = Done(other, moment, formula)
    told = {}
    ways = {}
    for (first, second), (many, begun, events) in rows.items():
        state, held, tables = first_done.side(first)
        state_too, held_too, tables_too = second_done.side(second)
        pair = (state, state_too)
        if pair not in ways:
            ways[pair] = twin_ways(one.world, pair, moment)
        for (later, later_too), more, way in ways[pair]:
            key = ((later, held, tables), (later_too, held_too, tables_too))
            keep_least(told, key, (many + more, begun, events + way))
    return told


def keep_least(told, key, row):
    """Keep what is told of twins if there are no others with so few events."""
    if key not in told or row[0] < told[key][0]:
        told[key] = row


class Done:
    """What the steps of one moment do to a row that is left out nowhere, and to a formula."""

    def __init__(self, keeping, moment, formula):
        self.keeping = keeping
        self.moment = moment
        self.looks = Looks(keeping, moment, [formula])
        self.sides = {}

    def side(self, begun):
        """Tell state, steps and tables behind the steps."""
        if begun not in self.sides:
            state, held, tables = begun
            behind, holding, left_out = end_at(self.keeping, self.moment, state, held, ())
            names = holding[len(held):]
            left = self.looks.done(self.looks.begun(tables, state), names)
            self.sides[begun] = (behind, self.looks.counting(holding), left)
        return self.sides[begun]


def twin_ways(world, pair, moment):
    """List the pairs of states as the next moment begins, with the fewest events that lead there at once.

    They are told by how many they are and by a tuple that their list stands in. Behind the last
    moment there is nothing more to tell.
    """
    at = world.moments.index(moment) + 1
    if at == len(world.moments):
        return [((None, None), 0, ())]
    ways = ways_by(pair, world.spans[world.moments[at]], lambda both, name: moved(world.moves[name], both))
    return [(behind, len(ways[behind]), (ways[behind],)) for behind in ways]


def moved(moves, pair):
    """Tell the states behind an event that may happen to both of a pair, to one alone or to none."""
    state, state_too = pair
    return moves.get(state, state), moves.get(state_too, state_too)
