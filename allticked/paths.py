"""Paths: what rows can go through from the first moment to the last, as plain tuples.

A path has these parts: how many events it has, the places of its states in the order of the
world, for each deed whether it takes the row, the states as the moments begin, the ways that
lead from one to the next, the deeds at which a stop left the row out, the steps that hold. A
turn is what a path grows by at one moment; it has the same parts, with all steps that hold.
"""

from allticked.formulas import worth
from allticked.steps import ends_at, steps_at
from allticked.worlds import ways_from, words_now

STATES = 3
HELD = 6


def paths_of(keeping):
    """List all paths that are unlike in states or in the deeds that take the row, in order."""
    world = keeping.world
    paths = [(0, (at,), (), (state,), (), (), ()) for at, state in enumerate(world.states) if state in world.beginnings]
    for moment in world.moments:
        ways = ways_behind(world, moment)
        turns = {}
        longer = []
        for many, places, taken, states, passed, left_out, held in paths:
            pair = (states[-1], held)
            if pair not in turns:
                turns[pair] = turns_of(keeping, moment, pair, ways)
            for more, place, takes, state, way, left, names in turns[pair]:
                longer.append((
                    many + more, places + place, taken + takes, states + state, passed + way, left_out + left, names,
                ))
        paths = longer
    return sorted(paths, key=lambda path: path[:STATES])


def ways_behind(world, moment):
    """Tell for each state behind a moment the ways to the states of the next one; None behind the last."""
    at = world.moments.index(moment) + 1
    if at == len(world.moments):
        return None
    return {state: ways_from(world, state, world.moments[at]) for state in world.states}


def turns_of(keeping, moment, pair, ways):
    """List the turns that a row of some state, with some steps that hold, can take at a moment."""
    state, held = pair
    states = keeping.world.states
    deeds = [step[2] for step in steps_at(keeping, moment) if step[0] == "deed"]
    turns = []
    for behind, names, left in ends_at(keeping, moment, state, held):
        takes = tuple([name in names for name in deeds])
        if ways is None:
            turns.append((0, (), takes, (), (), left, names))
            continue
        for place, later in enumerate(states):
            if later in ways[behind]:
                way = ways[behind][later]
                turns.append((len(way), (place,), takes, (later,), (way,), left, names))
    return turns


def pairs_by_moment(keeping):
    """Tell for each moment the pairs of a state as it begins and the steps that hold then, in order."""
    world = keeping.world
    told = {}
    pairs = [(state, ()) for state in world.beginnings]
    for moment in world.moments:
        told[moment] = in_order(keeping, pairs)
        ways = ways_behind(world, moment)
        found = {}
        for pair in pairs:
            for more, place, takes, state, way, left, names in turns_of(keeping, moment, pair, ways):
                if state:
                    found[(state[0], names)] = True
        pairs = list(found)
    return told


def in_order(keeping, pairs):
    """Order pairs of a state and names of steps: by states, then fewer names first, then by their places."""
    places = {name: at for at, name in enumerate(keeping.names())}
    ahead = {state: at for at, state in enumerate(keeping.world.states)}
    return sorted(pairs, key=lambda pair: (ahead[pair[0]], len(pair[1]), [places[step] for step in pair[1]]))


def bits_of(keeping, paths, formula):
    """Tell of which paths a formula holds, one bit each, the lowest for the first path."""
    columns = {word: column_of(keeping, paths, word) for word in formula.words()}
    return worth(formula.code, columns, (1 << len(paths)) - 1)


def column_of(keeping, paths, word):
    """Tell of which paths a word holds, one bit each."""
    fact, at, moment = word.partition("@")
    if at == "":
        signs = ["1" if word in path[HELD] else "0" for path in paths]
    else:
        place = keeping.world.moments.index(moment)
        sign = {state: "1" if fact in words_now(state) else "0" for state in keeping.world.states}
        signs = [sign[path[STATES][place]] for path in paths]
    return int("".join(signs[::-1]), 2) if signs else 0
