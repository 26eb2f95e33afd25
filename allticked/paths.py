"""Paths: what rows can go through from the first moment to the last, as plain tuples.

A path has these parts: how many events it has, the places of its states in the order of the
world, for each deed whether it takes the row, the states as the moments begin, the ways that
lead from one to the next, the deeds at which a stop left the row out, the steps that hold. A
turn is what a path grows by at one moment; it has the same parts. What stands ahead of the
states tells the order of paths.
"""

from allticked.steps import ends_at, steps_at
from allticked.worlds import ways_from, words_now

STATES = 3
HELD = 6


def paths_of(keeping):
    """List all paths that are unlike in states or in the deeds that take the row, in order."""
    world = keeping.world
    paths = begun_paths(world)
    for moment in world.moments:
        ways = ways_behind(world, moment)
        turns = {}
        longer = []
        for path in paths:
            pair = (path[STATES][-1], path[HELD])
            if pair not in turns:
                turns[pair] = turns_of(keeping, moment, pair, ways)
            longer.extend([grown(path, turn) for turn in turns[pair]])
        paths = longer
    return sorted(paths, key=lambda path: path[:STATES])


def begun_paths(world):
    """List the paths of all rows as the first moment begins."""
    return [(0, (at,), (), (state,), (), (), ()) for at, state in enumerate(world.states) if state in world.beginnings]


def grown(path, turn):
    """Tell a path that has grown by a turn."""
    many, places, taken, states, passed, left_out, held = path
    more, place, takes, state, way, left, names = turn
    return (many + more, places + place, taken + takes, states + state, passed + way, left_out + left, held + names)


def earlier(path, other):
    """Tell the path that stands first of two; None stands behind all."""
    if other is None:
        return path
    return path if path is not None and path[:STATES] <= other[:STATES] else other


def ways_behind(world, moment):
    """Tell for each state behind a moment the ways to the states of the next one; None behind the last."""
    at = world.moments.index(moment) + 1
    if at == len(world.moments):
        return None
    return {state: ways_from(world, state, world.moments[at]) for state in world.states}


def turns_of(keeping, moment, pair, ways):
    """List the turns that a row of some state, with some steps that hold, can take at a moment.

    Of the steps that hold only those have to be told that the steps of this moment look at.
    """
    state, held = pair
    states = keeping.world.states
    deeds = [step[2] for step in steps_at(keeping, moment) if step[0] == "deed"]
    turns = []
    for behind, holding, left in ends_at(keeping, moment, state, held):
        names = holding[len(held):]
        takes = tuple([name in names for name in deeds])
        if ways is None:
            turns.append((0, (), takes, (), (), left, names))
            continue
        for place, later in enumerate(states):
            if later in ways[behind]:
                way = ways[behind][later]
                turns.append((len(way), (place,), takes, (later,), (way,), left, names))
    return turns


def pairs_by_moment(keeping):
    """Tell for each moment the pairs of a state as it begins and the steps that hold then, in order."""
    world = keeping.world
    told = {}
    pairs = [(state, ()) for state in world.beginnings]
    for moment in world.moments:
        told[moment] = in_order(keeping, pairs)
        ways = ways_behind(world, moment)
        found = {}
        for pair in pairs:
            for more, place, takes, state, way, left, names in turns_of(keeping, moment, pair, ways):
                if state:
                    found[(state[0], pair[1] + names)] = True
        pairs = list(found)
    return told


def in_order(keeping, pairs):
    """Order pairs of a state and names of steps: by states, then fewer names first, then by their places."""
    places = {name: at for at, name in enumerate(keeping.names())}
    ahead = {state: at for at, state in enumerate(keeping.world.states)}
    return sorted(pairs, key=lambda pair: (ahead[pair[0]], len(pair[1]), [places[step] for step in pair[1]]))
