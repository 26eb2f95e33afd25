"""Stories as the document tells them, worked out step by step from the texts, for tests to compare with."""

import itertools
import random

from allticked.formulas import Formula
from allticked.keepings import Keeping
from allticked.worlds import World


class Drawn:
    """A small keeping that is drawn, with the texts that it was made of."""

    def __init__(self, rng, facts, moments, most_events, most_steps):
        self.facts, self.moments = facts, moments
        self.events = [self.event(rng, name) for name in rng.sample(["ev", "en", "go", "ka", "zu", "be"], rng.randint(0, most_events))]
        names = [event[0] for event in self.events]
        self.spans = {moment: rng.sample(names, rng.randint(0, len(names))) for moment in moments[1:] if rng.random() < 0.4}
        self.first = rng.choice(["all", "all", "there", "not there", rng.choice([*facts, "none"])])
        self.steps = []
        places = sorted(rng.randrange(len(moments)) for _ in range(rng.randint(0, most_steps)))
        for moment, name in zip([moments[place] for place in places], rng.sample(["one", "two", "tri", "for", "fiv", "six"], len(places))):
            self.steps.append(self.step(rng, moment, name))
        world = World(facts, moments, self.events, self.spans, self.first)
        self.keeping = Keeping(world, self.steps)

    def text(self, rng, names):
        words = [*self.facts, *names, *names, "there", "all"]
        form = rng.choice(["{}", "{} or {}", "not {} or not {}", "{} and {}", "not {}", "{} and not {}"])
        return form.format(rng.choice(words), rng.choice(words))

    def change(self, rng):
        return {fact: rng.random() < 0.5 for fact in rng.sample(self.facts, rng.randint(0, len(self.facts)))}

    def event(self, rng, name):
        come = rng.sample(self.facts, rng.randint(0, len(self.facts)))
        return name, rng.choice(["all", self.text(rng, [])]), rng.choice(["go", come, self.change(rng), self.change(rng)])

    def step(self, rng, moment, name):
        deeds = [step for step in self.steps if step[0] == "deed"]
        text = self.text(rng, [step[2] for step in self.steps])
        if len(deeds) == 3 or rng.random() < 0.4:
            return "mark", moment, name, text
        return "deed", moment, name, text, rng.choice(["go", {}, self.change(rng)]), *rng.choice([["stops"], ["stops"], []])

    def states(self):
        return [None, *[row for many in range(len(self.facts) + 1) for row in itertools.combinations(self.facts, many)]]

    def begins(self):
        return [state for state in self.states() if Formula(self.first).holds(now(state))]

    def behind(self, state, effect):
        if effect == "go":
            return None
        if isinstance(effect, dict):
            return tuple(fact for fact in self.facts if effect.get(fact, fact in state))
        return tuple(fact for fact in self.facts if fact in effect)

    def after(self, state, name):
        when, effect = [event[1:] for event in self.events if event[0] == name][0]
        can = isinstance(effect, list) == (state is None) and Formula(when).holds(now(state))
        return self.behind(state, effect) if can else state

    def run(self, state, events, left):
        """Return the states, the deeds at which the row was left out, and all words that hold."""
        states, left_out, words, held = [], [], [], []
        for moment, happening in zip(self.moments, [*events, []]):
            states.append(state)
            words += [f"{word}@{moment}" for word in now(state)]
            for kind, when, name, text, *more in self.steps:
                if when != moment or not Formula(text).holds(now(state) + held):
                    continue
                if kind == "mark":
                    held.append(name)
                elif state is not None:
                    if name in left:
                        left_out.append(name)
                    else:
                        held.append(name)
                        state = self.behind(state, more[0])
            for name in happening:
                state = self.after(state, name)
        return tuple(states), left_out, words + held

    def stopping(self):
        return [step[2] for step in self.steps if step[-1] == "stops"]

    def spanned(self):
        """Return the names of the events of each span, in order."""
        names = [event[0] for event in self.events]
        return [[name for name in names if name in self.spans.get(moment, names)] for moment in self.moments[1:]]

    def lists(self, most):
        """Return all lists of events as in run, with at most so many between two moments."""
        rows = []
        for names in self.spanned():
            rows.append([list(row) for many in range(most + 1) for row in itertools.product(names, repeat=many)])
        return [list(row) for row in itertools.product(*rows)]

    def left_lists(self):
        names = self.stopping()
        return [row for many in range(len(names) + 1) for row in itertools.combinations(names, many)]

    def all_runs(self, most):
        """Return all that can be: tuples of states, events, deeds left out and words."""
        told = []
        for state in self.begins():
            for events in self.lists(most):
                for left in self.left_lists():
                    states, left_out, words = self.run(state, events, left)
                    told.append((states, events, left_out, words))
        return told

    def taken(self, words):
        return tuple(step[2] in words for step in self.steps if step[0] == "deed")

    def best(self, most):
        """Return for each choice of states and taking deeds the run with the fewest events, and sort them."""
        names = [event[0] for event in self.events]
        places = {state: at for at, state in enumerate(self.states())}

        def ahead(told):
            events = told[1]
            return sum(map(len, events)), [(len(row), [names.index(name) for name in row]) for row in events]

        def place(told):
            return sum(map(len, told[1])), [places[state] for state in told[0]], self.taken(told[3])

        best = {}
        for told in self.all_runs(most):
            key = (told[0], self.taken(told[3]))
            if key not in best or ahead(told) < ahead(best[key]):
                best[key] = told
        return sorted(best.values(), key=place)


def now(state):
    """Return the words that hold of a state."""
    return [] if state is None else [*state, "there"]


def drawn(seed, many, facts, moments, most_events, most_steps):
    """Return some drawn keepings, always the same ones."""
    rng = random.Random(seed)
    return [Drawn(rng, list(facts), list(moments), most_events, most_steps) for _ in range(many)]
