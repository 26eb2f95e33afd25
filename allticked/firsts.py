"""First paths: of all stories in which the same formulas hold, the first one.

Paths that have come to the same state, to the same steps of those that later steps look at, and
to the same that is left of the formulas, go on alike. So just the first of them is followed.
"""

from allticked.paths import HELD, STATES, begun_paths, earlier, grown, turns_of, ways_behind
from allticked.steps import names_of, steps_at
from allticked.tables import Sieve, tables_of, truths_of
from allticked.worlds import words_at


def first_paths(keeping, formulas):
    """Tell for each choice of formulas that hold together in a story the first path of such a one.

    A choice is a tuple of truth values, one for each formula.
    """
    tables = tables_of(formulas)
    rows = {(path[STATES][0], (), tables): path for path in begun_paths(keeping.world)}
    for moment in keeping.world.moments:
        rows = rows_behind(keeping, moment, formulas, rows)
    return {truths_of(left): path for (state, held, left), path in rows.items()}


def rows_behind(keeping, moment, formulas, rows):
    """Tell the first paths behind a moment, by all that their going on hangs on."""
    ways = ways_behind(keeping.world, moment)
    looks = Looks(keeping, moment, formulas)
    turns = {}
    told = {}
    for (state, held, tables), path in rows.items():
        if (state, held) not in turns:
            turns[(state, held)] = turns_of(keeping, moment, (state, held), ways)
        begun = looks.begun(tables, state)
        for turn in turns[(state, held)]:
            names = turn[HELD]
            key = (turn[STATES], looks.counting(held + names), looks.done(begun, names))
            told[key] = earlier(grown(path, turn), told.get(key))
    # Behind the last moment there is no state any more.
    return {(states[0] if states else None, held, left): path for (states, held, left), path in told.items()}


class Looks:
    """What formulas, and later steps, look at in a row at one moment."""

    def __init__(self, keeping, moment, formulas):
        world = keeping.world
        self.heard = {state: tuple(words_at(moment, state)) for state in world.states}
        self.at_first = Sieve(formulas, [f"{word}@{moment}" for word in [*world.facts, "there"]])
        self.at_last = Sieve(formulas, names_of(steps_at(keeping, moment)))
        later = world.moments[world.moments.index(moment) + 1:]
        asked = [step[3].words() for step in keeping.steps if step[1] in later]
        self.asked = [word for words in asked for word in words]

    def begun(self, tables, state):
        """Tell what is left of tables as the moment begins in a state."""
        return self.at_first.left_of(tables, self.heard[state])

    def done(self, tables, names):
        """Tell what is left of tables behind the steps of the moment, by which of these hold."""
        return self.at_last.left_of(tables, names)

    def counting(self, names):
        """Tell those of the names that later steps look at."""
        return tuple([name for name in names if name in self.asked])
