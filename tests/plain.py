"""Stories as the document tells them, worked out step by step from the texts, for tests to compare with."""

import itertools
import random

from allticked.formulas import Formula
from allticked.keepings import Keeping
from allticked.worlds import World


class Drawn:
    """A small keeping that is drawn, with the texts that it was made of; perhaps in a world like another one's."""

    def __init__(self, rng, facts, moments, most_events, most_steps, like=None):
        self.facts, self.moments = facts, moments
        if like is None:
            self.draw_world(rng, most_events)
        else:
            self.events, self.spans, self.first = like.events, like.spans, like.first
        self.steps = []
        places = sorted(rng.randrange(len(moments)) for _ in range(rng.randint(0, most_steps)))
        for moment, name in zip([moments[place] for place in places], rng.sample(["one", "two", "tri", "for", "fiv", "six"], len(places))):
            self.steps.append(self.step(rng, moment, name))
        world = World(facts, moments, self.events, self.spans, self.first)
        self.keeping = Keeping(world, self.steps)

    def draw_world(self, rng, most_events):
        names = rng.sample(["ev", "en", "go", "ka", "zu", "be"], rng.randint(0, most_events))
        self.events = [self.event(rng, name) for name in names]
        self.spans = {moment: rng.sample(names, rng.randint(0, len(names))) for moment in self.moments[1:] if rng.random() < 0.4}
        self.first = rng.choice(["all", "all", "there", "not there", rng.choice([*self.facts, "none"])])

    def text(self, rng, names):
        words = [*self.facts, *names, *names, "there", "all"]
        form = rng.choice(["{}", "{} or {}", "not {} or not {}", "{} and {}", "not {}", "{} and not {}"])
        return form.format(rng.choice(words), rng.choice(words))

    def change(self, rng):
        return {fact: rng.random() < 0.5 for fact in rng.sample(self.facts, rng.randint(0, len(self.facts)))}

    def event(self, rng, name):
        come = rng.sample(self.facts, rng.randint(0, len(self.facts)))
        return name, rng.choice(["all", self.text(rng, [])]), rng.choice(["go", come, self.change(rng), self.change(rng)])

    def step(self, rng, moment, name):
        deeds = [step for step in self.steps if step[0] == "deed"]
        text = self.text(rng, [step[2] for step in self.steps])
        if len(deeds) == 3 or rng.random() < 0.4:
            return "mark", moment, name, text
        return "deed", moment, name, text, rng.choice(["go", {}, self.change(rng)]), *rng.choice([["stops"], ["stops"], []])

    def states(self):
        return [None, *[row for many in range(len(self.facts) + 1) for row in itertools.combinations(self.facts, many)]]

    def begins(self):
        return [state for state in self.states() if Formula(self.first).holds(now(state))]

    def behind(self, state, effect):
        if effect == "go":
            return None
        if isinstance(effect, dict):
            return tuple(fact for fact in self.facts if effect.get(fact, fact in state))
        return tuple(fact for fact in self.facts if fact in effect)

    def after(self, state, name):
        when, effect = [event[1:] for event in self.events if event[0] == name][0]
        can = isinstance(effect, list) == (state is None) and Formula(when).holds(now(state))
        return self.behind(state, effect) if can else state

    def done_to(self, state, step, held, left, left_out):
        """Return the state behind a step; what holds and where the row is left out is put into the lists."""
        kind, _, name, text, *more = step
        if not Formula(text).holds(now(state) + held):
            return state
        if kind == "mark":
            held.append(name)
        elif state is not None and name in left:
            left_out.append(name)
        elif state is not None:
            held.append(name)
            return self.behind(state, more[0])
        return state

    def run(self, state, events, left):
        """Return the states, the deeds at which the row was left out, and all words that hold."""
        states, left_out, words, held = [], [], [], []
        for moment, happening in zip(self.moments, [*events, []]):
            states.append(state)
            words += [f"{word}@{moment}" for word in now(state)]
            for step in self.steps:
                if step[1] == moment:
                    state = self.done_to(state, step, held, left, left_out)
            for name in happening:
                state = self.after(state, name)
        return tuple(states), left_out, words + held

    def brings(self, deed, state, events, left):
        """Return the view that a row brings to a deed, the deeds at which it was left out, and the words that hold so far."""
        left_out, words, held = [], [], []
        for moment, happening in zip(self.moments, [*events, []]):
            words += [f"{word}@{moment}" for word in now(state)]
            for step in self.steps:
                if step[2] == deed and step[1] == moment:
                    return (state, tuple(held)), left_out, words + held
                if step[1] == moment:
                    state = self.done_to(state, step, held, left, left_out)
            for name in happening:
                state = self.after(state, name)

    def view_order(self, view):
        """Return what views are ordered by."""
        places = [step[2] for step in self.steps]
        return self.states().index(view[0]), len(view[1]), [places.index(name) for name in view[1]]

    def wish(self, rng, words):
        """Return a text with some of the words."""
        form = rng.choice(["{}", "{} and {}", "not {} and {}", "{} and not {} or {}", "not ({} or {})", "{} and ({} or not {})"])
        return form.format(*[rng.choice([*words, *words, *words, "all"]) for _ in range(3)])

    def stopping(self):
        return [step[2] for step in self.steps if step[-1] == "stops"]

    def spanned(self):
        """Return the names of the events of each span, in order."""
        names = [event[0] for event in self.events]
        return [[name for name in names if name in self.spans.get(moment, names)] for moment in self.moments[1:]]

    def lists(self, most):
        """Return all lists of events as in run, with at most so many between two moments."""
        rows = []
        for names in self.spanned():
            rows.append([list(row) for many in range(most + 1) for row in itertools.product(names, repeat=many)])
        return [list(row) for row in itertools.product(*rows)]

    def left_lists(self):
        names = self.stopping()
        return [row for many in range(len(names) + 1) for row in itertools.combinations(names, many)]

    def all_runs(self, most):
        """Return all that can be: tuples of states, events, deeds left out and words."""
        told = []
        for state in self.begins():
            for events in self.lists(most):
                for left in self.left_lists():
                    states, left_out, words = self.run(state, events, left)
                    told.append((states, events, left_out, words))
        return told

    def taken(self, words):
        return tuple(step[2] in words for step in self.steps if step[0] == "deed")

    def best(self, most):
        """Return for each choice of states and taking deeds the run with the fewest events, and sort them."""
        names = [event[0] for event in self.events]
        places = {state: at for at, state in enumerate(self.states())}

        def ahead(told):
            events = told[1]
            return sum(map(len, events)), [(len(row), [names.index(name) for name in row]) for row in events]

        def place(told):
            return sum(map(len, told[1])), [places[state] for state in told[0]], self.taken(told[3])

        best = {}
        for told in self.all_runs(most):
            key = (told[0], self.taken(told[3]))
            if key not in best or ahead(told) < ahead(best[key]):
                best[key] = told
        return sorted(best.values(), key=place)


def now(state):
    """Return the words that hold of a state."""
    return [] if state is None else [*state, "there"]


def told(story):
    """Return what a story tells, to be compared."""
    return story.states, story.events, story.left_out, story.words()


def word_of(must, never):
    """Return what a wish says, by whether must and never hold in some story."""
    return {(True, False): "take", (False, True): "leave", (False, False): "free", (True, True): "both"}[must, never]


def drawn(seed, many, facts, moments, most_events, most_steps):
    """Return some drawn keepings, always the same ones."""
    rng = random.Random(seed)
    return [Drawn(rng, list(facts), list(moments), most_events, most_steps) for _ in range(many)]


def plain_views(one, deed, must, never, most):
    """Return for each view that rows bring, in order, what the wish says of it."""
    formulas = Formula(must), Formula(never)
    met = {}
    for state in one.begins():
        for events in one.lists(most):
            for left in one.left_lists():
                view, left_out, words = one.brings(deed, state, events, left)
                said = met.setdefault(view, [False, False])
                for at in range(2):
                    said[at] = said[at] or formulas[at].holds(words)
    return {view: word_of(*met[view]) for view in sorted(met, key=one.view_order)}


def some_deeds():
    """Return drawn keepings with their deeds, and with the most events between two moments that bring all views."""
    told = []
    for seed, facts, moments, most in [(1, "a", "mnp", 2), (2, "", "mnpq", 1), (3, "cab", "m", 0), (4, "ab", "mn", 3)]:
        for one in drawn(seed, 30, facts, moments, 3, 5):
            told += [(one, step[2], most) for step in one.steps if step[0] == "deed"]
    return told


def largest(rng):
    """Return a keeping as large as the document has them, and its last deed."""
    events = [("go", "there", "go"), ("come", "all", [])]
    for fact in "xyz":
        events += [("on" + fact, "all", {fact: True}), ("off" + fact, "all", {fact: False})]
    steps = []
    for moment, name, effect in [("k", "ma", None), ("k", "da", {"x": True}), ("l", "db", {"y": False}), ("l", "mb", None), ("m", "mc", None), ("m", "dc", "go")]:
        words = ["x", "y", "z", "there", *[step[2] for step in steps]]
        text = f"{rng.choice(words)} or not {rng.choice(words)} and {rng.choice(words)}"
        steps.append(("mark", moment, name, text) if effect is None else ("deed", moment, name, text, effect, "stops"))
    return Keeping(World(["x", "y", "z"], ["k", "l", "m"], events[:7]), steps), "dc"
