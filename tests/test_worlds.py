"""Points 3, 6, 7 and 8 of the document: worlds."""

import copy
import itertools
import random
import time
import unittest

from allticked.errors import BadCount, BadEvent, BadFormula, BadName, BadSpan, BadState, NoEvent, NoMoment, NoWord
from allticked.errors import TickError
from allticked.formulas import Formula
from allticked.worlds import World
from tests.pool import any_keys, any_objects

EVENTS = [
    ("close", "open", {"open": False}), ("reopen", "there and not open", {"open": True}),
    ("come", "not there", ["open"]), ("go", "there", "go"),
]


def mails(spans=None, first="all"):
    return World(["open"], ["shown", "ticked", "done"], EVENTS, spans, first)


def wide():
    """Return a world of three facts in an order that is not the one of letters."""
    events = [
        ("nil", "all", {}), ("swap", "c and not a", {"c": False, "a": True}), ("birth", "all", ["a", "c"]),
        ("die", "b or not a", "go"), ("tag", "there", {"b": True}), ("bare", "not there", []), ("back", "a", {"c": True}),
    ]
    spans = {"second": ["tag", "birth", "nil"], "third": []}
    return World(["c", "a", "b"], ["first", "second", "third", "fourth"], events, spans, "not b")


class Plain:
    """A world as the document tells it, worked out without the package: a state is None or a set."""

    def __init__(self, facts, events):
        self.facts, self.events = facts, events
        self.table = {event[0]: {row: self.after(row, event) for row in self.states()} for event in events}

    def state(self, row):
        return None if row is None else tuple(fact for fact in self.facts if fact in row)

    def states(self):
        rows = [row for many in range(len(self.facts) + 1) for row in itertools.combinations(self.facts, many)]
        return [None, *rows]

    def can(self, row, event):
        name, when, effect = event
        words = [] if row is None else [*row, "there"]
        return (row is None) == isinstance(effect, (list, tuple)) and Formula(when).holds(words)

    def after(self, row, event):
        effect = event[2]
        if not self.can(row, event):
            return row
        if effect == "go":
            return None
        if isinstance(effect, dict):
            return self.state({*row, *[fact for fact in effect if effect[fact]]} - {fact for fact in effect if not effect[fact]})
        return self.state(effect)

    def ways(self, row):
        """Try all lists of events, shorter first, of as many by the order of the events."""
        told = {}
        for many in range(len(self.states())):
            for names in itertools.product(list(self.table), repeat=many):
                now = row
                for name in names:
                    now = self.table[name][now]
                told.setdefault(now, list(names))
        return told


class TestStates(unittest.TestCase):

    def test_facts_and_moments_are_tuples(self):
        world = wide()
        self.assertEqual(world.facts, ("c", "a", "b"))
        self.assertEqual(world.moments, ("first", "second", "third", "fourth"))
        self.assertIsInstance(World((), ("m",), ()).facts, tuple)

    def test_event_names(self):
        self.assertEqual(mails().event_names(), ["close", "reopen", "come", "go"])
        self.assertEqual(World(["a"], ["m"], []).event_names(), [])

    def test_the_order_of_states(self):
        self.assertEqual(mails().all_states(), [None, (), ("open",)])
        self.assertEqual(World([], ["m"], []).all_states(), [None, ()])
        self.assertEqual(
            wide().all_states(),
            [None, (), ("c",), ("a",), ("b",), ("c", "a"), ("c", "b"), ("a", "b"), ("c", "a", "b")],
        )

    def test_begins(self):
        self.assertEqual(mails().begins(), [None, (), ("open",)])
        self.assertEqual(mails(first="none").begins(), [])
        self.assertEqual(mails(first="there").begins(), [(), ("open",)])
        self.assertEqual(mails(first="not there").begins(), [None])
        self.assertEqual(mails(first=Formula("open")).begins(), [("open",)])
        self.assertEqual(mails(first="not open").begins(), [None, ()])
        self.assertEqual(wide().begins(), [None, (), ("c",), ("a",), ("c", "a")])

    def test_no_fact_holds_of_none(self):
        world = World(["a"], ["m"], [("x", "not a and not there", ["a"]), ("y", "a", ["a"]), ("z", "there", [])])
        self.assertEqual([world.can(None, name) for name in "xyz"], [True, False, False])


class TestEvents(unittest.TestCase):

    def test_each_effect_in_each_state(self):
        world = mails()
        told = {name: [(world.can(state, name), world.after(state, name)) for state in world.all_states()] for name in world.event_names()}
        self.assertEqual(told, {
            "close": [(False, None), (False, ()), (True, ())],
            "reopen": [(False, None), (True, ("open",)), (False, ("open",))],
            "come": [(True, ("open",)), (False, ()), (False, ("open",))],
            "go": [(False, None), (True, None), (True, None)],
        })

    def test_can_tells_truth_values(self):
        self.assertIs(mails().can(None, "come"), True)
        self.assertIs(mails().can((), "come"), False)

    def test_can_does_not_look_at_spans(self):
        world = mails({"ticked": [], "done": []})
        self.assertTrue(world.can(None, "come"))
        self.assertEqual(world.after(None, "come"), ("open",))

    def test_an_effect_without_facts(self):
        world = World(["a"], ["m", "n"], [("same", "a", {}), ("bare", "all", [])])
        self.assertEqual([world.can(state, "same") for state in world.all_states()], [False, False, True])
        self.assertEqual(world.after(("a",), "same"), ("a",))
        self.assertEqual([world.can(state, "bare") for state in world.all_states()], [True, False, False])
        self.assertEqual(world.after(None, "bare"), ())

    def test_facts_may_be_told_in_any_order(self):
        world = World(["b", "a", "c"], ["m"], [("come", "all", ("c", "b")), ("set", "all", {"a": True, "b": True, "c": False})])
        self.assertEqual(world.after(None, "come"), ("b", "c"))
        self.assertEqual(world.after(("c",), "set"), ("b", "a"))

    def test_a_fact_may_be_called_go(self):
        world = World(["go"], ["m"], [("come", "all", ["go"]), ("go", "go", "go"), ("m", "all", {"go": False})])
        self.assertEqual([world.after(None, "come"), world.after(("go",), "go"), world.after(("go",), "m")], [("go",), None, ()])
        self.assertFalse(world.can((), "go"))

    def test_when_may_be_a_formula_object_and_a_triple_a_list(self):
        world = World(["open"], ["shown", "ticked", "done"], [[name, Formula(when), effect] for name, when, effect in EVENTS])
        self.assertTrue(world == mails())

    def test_as_the_document_says(self):
        for plain, world in drawn_worlds(80, 3):
            self.assertEqual(world.all_states(), plain.states())
            for event in plain.events:
                for state in plain.states():
                    self.assertIs(world.can(state, event[0]), plain.can(state, event))
                    self.assertEqual(world.after(state, event[0]), plain.after(state, event))


def drawn_worlds(many, most):
    """Return worlds, and the same ones without the package."""
    rng = random.Random(8)
    told = []
    for _ in range(many):
        facts = rng.sample(["z", "m", "a"], rng.randint(0, most))
        words = [*facts, "there", "all"]
        events = []
        for name in rng.sample(["ed", "ca", "be", "ab", "da", "z"], rng.randint(0, 6)):
            when = rng.choice(["all", "{} or {}", "not {} or not {}", "{} and {}", "not {}"]).format(rng.choice(words), rng.choice(words))
            picked = rng.sample(facts, rng.randint(0, len(facts)))
            effect = rng.choice(["go", picked, {fact: rng.random() < 0.5 for fact in picked}, {fact: True for fact in picked}])
            events.append((name, when, effect))
        told.append((Plain(facts, events), World(facts, ["u", "v"], events)))
    return told


class TestWays(unittest.TestCase):

    def test_leads(self):
        world = mails({"ticked": ["close"], "done": ["go", "come"]})
        self.assertEqual([world.leads(state, "ticked") for state in world.all_states()], [[None], [()], [(), ("open",)]])
        self.assertEqual(
            [world.leads(state, "done") for state in world.all_states()],
            [[None, ("open",)], [None, (), ("open",)], [None, ("open",)]],
        )

    def test_way(self):
        world = mails()
        self.assertEqual(world.way(None, (), "done"), ["come", "close"])
        self.assertEqual(world.way((), (), "done"), [])
        self.assertEqual(world.way(None, None, "ticked"), [])
        self.assertEqual(world.way((), None, "ticked"), ["go"])
        self.assertEqual(mails({"done": ["close"]}).way(None, (), "done"), None)
        self.assertEqual(mails({"done": ["close"]}).way(("open",), ("open",), "done"), [])

    def test_of_as_many_the_first_by_the_order_of_the_events(self):
        events = [("z", "all", {"b": True}), ("y", "all", {"a": True}), ("x", "all", {"b": True, "a": False}), ("w", "a", {"b": True})]
        world = World(["a", "b"], ["m", "n"], events, {"n": ["w", "y", "z", "x"]})
        self.assertEqual(world.way((), ("b",), "n"), ["z"])
        self.assertEqual(world.way((), ("a", "b"), "n"), ["z", "y"])
        self.assertEqual(World(["a", "b"], ["m", "n"], events[::-1]).way((), ("a", "b"), "n"), ["x", "y"])
        self.assertEqual(World(["a", "b"], ["m", "n"], events[::-1]).way(("a",), ("a", "b"), "n"), ["w"])

    def test_what_does_nothing_is_in_no_way(self):
        world = World(["a"], ["m", "n"], [("nil", "all", {}), ("on", "all", {"a": True})])
        self.assertEqual(world.way((), ("a",), "n"), ["on"])
        self.assertEqual(world.way((), (), "n"), [])

    def test_as_all_lists_of_events_say(self):
        for plain, world in drawn_worlds(100, 2):
            for state in plain.states():
                ways = plain.ways(state)
                self.assertEqual(world.leads(state, "v"), [other for other in plain.states() if other in ways])
                for other in plain.states():
                    self.assertEqual(world.way(state, other, "v"), ways.get(other))

    def test_span(self):
        world = wide()
        self.assertEqual(world.span("second"), ["nil", "birth", "tag"])
        self.assertEqual(world.span("third"), [])
        self.assertEqual(world.span("fourth"), world.event_names())
        self.assertEqual(mails({"done": ()}).span("done"), [])
        self.assertEqual([world.leads(state, "third") for state in world.all_states()], [[state] for state in world.all_states()])
        self.assertEqual(world.leads(("a",), "second"), [("a",), ("a", "b")])
        self.assertEqual(world.leads(None, "second"), [None, ("c", "a"), ("c", "a", "b")])

    def test_until(self):
        world = wide().until("third")
        self.assertEqual(world.moments, ("first", "second", "third"))
        self.assertEqual([world.span("second"), world.span("third")], [["nil", "birth", "tag"], []])
        self.assertEqual([world.facts, world.event_names(), world.begins()], [wide().facts, wide().event_names(), wide().begins()])
        self.assertRaises(NoMoment, world.span, "fourth")
        self.assertRaises(NoMoment, world.until, "fourth")
        self.assertTrue(wide().until("fourth") == wide())
        self.assertEqual(wide().until("first").moments, ("first",))
        self.assertTrue(world.until("second") == wide().until("second"))
        self.assertEqual(wide().moments, ("first", "second", "third", "fourth"))

    def test_one_moment_alone(self):
        world = World(["a"], ["m"], [("on", "all", {"a": True})], {})
        self.assertEqual([world.begins(), world.after((), "on")], [[None, (), ("a",)], ("a",)])
        self.assertTrue(world.until("m") == world)
        for moment in ("m", "n", None):
            self.assertRaises(NoMoment, world.span, moment)
            self.assertRaises(NoMoment, world.leads, (), moment)
            self.assertRaises(NoMoment, world.way, (), (), moment)

    def test_without_facts_or_events(self):
        bare = World([], ["m", "n"], [("come", "all", []), ("go", "there", "go"), ("same", "there", {})])
        self.assertEqual([bare.way(None, (), "n"), bare.way((), None, "n"), bare.leads((), "n")], [["come"], ["go"], [None, ()]])
        still = World(["a"], ["m", "n"], [])
        self.assertEqual([still.span("n"), still.leads(("a",), "n"), still.way(("a",), (), "n")], [[], [("a",)], None])


class TestMethodErrors(unittest.TestCase):

    def refused(self, kind, attribute, thing, call, *passed):
        with self.assertRaises(kind) as caught:
            call(*passed)
        self.assertEqual(type(caught.exception), kind)
        self.assertIs(getattr(caught.exception, attribute), thing)

    def test_states(self):
        world = wide()
        wrong = [thing for thing in any_objects() if thing != []] + ["c", "", ("a", "c"), ("c", "c"), ["b", "c"], ("d",), ("c", None), (("c",),)]
        for state in wrong:
            self.refused(BadState, "state", state, world.can, state, "tag")
            self.refused(BadState, "state", state, world.after, state, "tag")
            self.refused(BadState, "state", state, world.leads, state, "second")
            self.refused(BadState, "state", state, world.way, state, (), "second")
            self.refused(BadState, "state", state, world.way, (), state, "second")

    def test_a_text_is_no_state(self):
        world = World(["a", "b"], ["m", "n"], [])
        for text in ("", "a", "ab"):
            self.refused(BadState, "state", text, world.leads, text, "n")

    def test_a_state_may_be_told_by_a_list(self):
        world = wide()
        self.assertEqual(world.after(["c"], "swap"), ("a",))
        self.assertEqual(world.after(["a"], "swap"), ("a",))
        self.assertEqual(world.after([], "swap"), ())
        self.assertTrue(world.can([], "tag"))
        self.assertEqual(world.leads(["a"], "third"), [("a",)])
        self.assertEqual(world.way([], ["b"], "second"), ["tag"])

    def test_events(self):
        world = wide()
        for event in [*any_objects(), None, "Tag", "c", "first", ("tag",), ["tag"]]:
            self.refused(NoEvent, "event", event, world.can, (), event)
            self.refused(NoEvent, "event", event, world.after, None, event)

    def test_moments(self):
        world = wide()
        for moment in [*any_objects(), None, "c", "fifth", "tag", ("second",), ["second"]]:
            self.refused(NoMoment, "moment", moment, world.until, moment)
            for called in (moment, "first"):
                self.refused(NoMoment, "moment", called, world.leads, (), called)
                self.refused(NoMoment, "moment", called, world.way, (), (), called)
                self.refused(NoMoment, "moment", called, world.span, called)

    def test_in_the_order_of_the_arguments(self):
        world = wide()
        self.refused(BadState, "state", 7, world.can, 7, "no")
        self.refused(BadState, "state", 7, world.after, 7, "no")
        self.refused(BadState, "state", 7, world.leads, 7, "no")
        self.refused(BadState, "state", 7, world.way, 7, 8, "no")
        self.refused(BadState, "state", 8, world.way, (), 8, "no")
        self.refused(NoMoment, "moment", "no", world.way, (), ("c",), "no")


class TestCreationErrors(unittest.TestCase):

    def refused(self, kind, attributes, *passed):
        with self.assertRaises(TickError) as caught:
            World(*passed)
        self.assertEqual(type(caught.exception), kind)
        self.assertEqual(list(vars(caught.exception).values()), attributes)

    def test_names(self):
        for thing in [*any_objects(), None, "all", "none", "there", "or"]:
            self.refused(BadName, [thing], ["a", thing, 5], ["m"], [])
            self.refused(BadName, [thing], ["a"], ["m", thing, 5], [])

    def test_names_that_stood_before(self):
        self.refused(BadName, ["a"], ["a", "b", "a", "b"], ["m"], [])
        self.refused(BadName, ["m"], ["a"], ["m", "n", "m"], [])
        self.refused(BadName, ["b"], ["a", "b"], ["m", "b", "a"], [])
        self.refused(BadName, ["b"], ["a", "b", "b"], [5], [])

    def test_names_of_eight_letters(self):
        World(["abcdefgh"], ["hgfedcba"], [("abcdefgh", "abcdefgh", "go")])
        self.refused(BadName, ["abcdefghi"], ["abcdefghi"], ["m"], [])

    def test_no_moment(self):
        self.refused(BadCount, [0], ["a"], [], [])
        self.refused(BadCount, [0], [], (), [5], {5: 5}, 5)
        self.refused(BadName, ["A"], ["A"], [], [])

    def test_things_that_are_no_events(self):
        good = ("come", "not there", ["a"])
        things = [thing for thing in any_objects()] + [
            None, "xyz", (), ("x", "all"), ("x", "all", "go", "go"), ("come", "all", "go"), ("x", "all", "gone"), ("x", "all", "a"),
            ("x", "all", ""), ("x", "all", ["a", "a"]), ("x", "all", ["c"]), ("x", "all", [None]), ("x", "all", [["a"]]),
            ("x", "all", ["a", "there"]), ("x", "all", {"c": True}), ("x", "all", {"a": 1}), ("x", "all", {"a": 0}),
            ("x", "all", {"a": None}), ("x", "all", {"a": "go"}), ("x", "all", {"a": True, None: True}), ("x", "all", {"there": True}),
            ("x", "c", "go"), ("x", "a@m", "go"), ("x", "there@m", "go"), ("x", "come", "go"), ("x", Formula("a or c"), "go"),
            ("x", "", "go"), ("x", "a and", "go"), {"x": 1, "all": 2, "go": 3},
        ]
        for thing in things:
            self.refused(BadEvent, [1], ["a", "b"], ["m"], [good, thing, 5], {5: 5}, 5)
            self.refused(BadEvent, [0], ["a", "b"], ["m"], [thing if thing != ("come", "all", "go") else 5])

    def test_any_objects_within_an_event(self):
        for thing in [*any_objects(), None]:
            self.refused(BadEvent, [0], ["a"], ["m"], [(thing, "all", "go")])
            if not isinstance(thing, Formula):
                self.refused(BadEvent, [0], ["a"], ["m"], [("x", thing, "go")])
            if thing not in ([], {}):
                self.refused(BadEvent, [0], ["a"], ["m"], [("x", "all", thing)])
            self.refused(BadEvent, [0], ["a"], ["m"], [("x", "all", ["a", thing])])
            self.refused(BadEvent, [0], ["a"], ["m"], [("x", "all", {"a": thing})] if not isinstance(thing, bool) else [5])
        for key in any_keys():
            self.refused(BadEvent, [0], ["a"], ["m"], [("x", "all", {"a": True, key: True})])

    def test_names_of_events_are_unlike(self):
        event = ("x", "all", "go")
        self.refused(BadEvent, [2], [], ["m"], [event, ("y", "all", "go"), ("x", "none", {}), 5])
        self.refused(BadEvent, [0], [], ["m"], [5, event, event])
        self.assertEqual(World(["x"], ["y"], [("x", "all", "go"), ("y", "all", "go")]).event_names(), ["x", "y"])

    def test_keys_of_spans(self):
        for key in [*any_keys(), "a", "x", "first", "n "]:
            spans = {"n": ["x"], key: [], "zz": []}
            self.refused(BadSpan, [key], ["a"], ["first", "n"], [("x", "all", "go")], spans, 5)

    def test_values_of_spans(self):
        values = [thing for thing in any_objects() if thing != []] + [
            None, "x", ["x", "x"], ["y"], [["x"]], {"x": True}, ["x", None], "n",
        ]
        for value in values:
            spans = {"o": ("x",), "n": value, "m": [], "zz": []}
            self.refused(BadSpan, ["n"], ["a"], ["m", "n", "o"], [("x", "all", "go")], spans, "a and")

    def test_the_first_key_in_the_order_of_the_dict(self):
        self.refused(BadSpan, ["q"], [], ["m", "n"], [], {"q": [], "n": 5, "m": []})
        self.refused(BadSpan, ["n"], [], ["m", "n"], [], {"n": 5, "q": [], "m": []})
        self.refused(BadSpan, ["m"], [], ["m"], [], {"m": []})

    def test_first(self):
        for thing in [*any_objects(), None, "a and", "not", ["a"]]:
            if not isinstance(thing, Formula):
                self.refused(BadFormula, [thing], ["a"], ["m"], [], None, thing)
        self.refused(NoWord, ["b"], ["a"], ["m"], [], {}, "a or not b and c")
        self.refused(NoWord, ["a@m"], ["a"], ["m"], [("x", "all", "go")], {}, "a or a@m or x")
        self.refused(NoWord, ["x"], ["a"], ["m"], [("x", "all", "go")], {}, Formula("there and x"))
        self.refused(NoWord, ["m"], ["a"], ["m"], [], {}, "m")

    def test_in_their_order(self):
        self.refused(BadName, [1], [1], [2], [3], {4: 4}, 5)
        self.refused(BadName, [2], [], [2], [3], {4: 4}, 5)
        self.refused(BadCount, [0], [], [], [3], {4: 4}, 5)
        self.refused(BadEvent, [0], [], ["m"], [3], {4: 4}, 5)
        self.refused(BadSpan, [4], [], ["m"], [], {4: 4}, 5)
        self.refused(BadFormula, [5], [], ["m"], [], {}, 5)


class TestEqual(unittest.TestCase):

    def test_equal(self):
        self.assertTrue(mails() == mails())
        self.assertTrue(mails() == World(("open",), ("shown", "ticked", "done"), tuple(tuple(event) for event in EVENTS), {}, Formula("not none")))
        self.assertTrue(mails({"done": ["go", "close"]}) == mails({"done": ("close", "go")}))
        self.assertTrue(mails({"done": ["close", "reopen", "come", "go"]}) == mails())
        self.assertFalse(mails() != mails())

    def test_equal_by_what_events_do(self):
        def world(*events):
            return World(["a"], ["m", "n"], events)
        self.assertTrue(world(("x", "a", {"a": False})) == world(("x", "there and a", {"a": False})))
        self.assertTrue(world(("x", "a", {})) == world(("x", "a", {"a": True})))
        self.assertTrue(world(("x", "none", {})) == world(("x", "none", "go")))
        self.assertTrue(world(("x", "not there", [])) == world(("x", "all", ())))
        self.assertTrue(world(("x", "all", [])) != world(("x", "all", ["a"])))
        self.assertTrue(world(("x", "a", {})) != world(("x", "all", {})))
        self.assertTrue(world(("x", "a", {})) != world(("x", "none", {})))
        self.assertTrue(world(("x", "a", {})) != world(("x", "a", {"a": False})))
        self.assertTrue(world(("x", "all", {"a": True})) != world(("x", "all", "go")))

    def test_unlike(self):
        others = [
            World(["shut"], ["shown", "ticked", "done"], []), World(["open"], ["shown", "ticked"], EVENTS), mails(first="there"),
            World(["open"], ["shown", "done", "ticked"], EVENTS), World(["open"], ["shown", "ticked", "done"], EVENTS[::-1]),
            World(["open"], ["shown", "ticked", "done"], EVENTS[:3]), mails({"done": []}), mails({"ticked": []}), mails().until("ticked"),
            World(["open"], ["shown", "ticked", "done"], [("shut", *EVENTS[0][1:]), *EVENTS[1:]]),
        ]
        for other in others:
            self.assertFalse(mails() == other)
            self.assertTrue(mails() != other)
        self.assertFalse(World(["a", "b"], ["m"], []) == World(["b", "a"], ["m"], []))
        self.assertFalse(World(["a"], ["m"], []) == World(["b"], ["m"], []))

    def test_spans_count_though_nothing_can_happen(self):
        def world(spans):
            return World([], ["m", "n"], [("x", "none", "go")], spans)
        self.assertFalse(world({"n": []}) == world({}))

    def test_equal_to_nothing_else(self):
        for thing in [*any_objects(), None, "mails", mails().facts]:
            self.assertIs(mails() == thing, False)
            self.assertIs(thing == mails(), False)


class TestConventions(unittest.TestCase):

    def test_what_is_passed_is_not_changed_and_may_be_changed_later(self):
        facts, moments, spans = ["open"], ["m", "n"], {"n": ["close", "come"]}
        events = [("close", "open", {"open": False}), ["come", "all", ["open"]], ("go", "all", "go")]
        passed = copy.deepcopy([facts, moments, events, spans])
        world = World(facts, moments, events, spans)
        like = World(*copy.deepcopy(passed))
        self.assertEqual([facts, moments, events, spans], passed)
        facts.append("x")
        moments.clear()
        events[0][2]["open"] = True
        events[1][2].clear()
        events[1][1] = "none"
        events.pop()
        spans["n"].append("go")
        spans["m"] = []
        self.assertTrue(world == like)
        self.assertEqual([world.after(("open",), "close"), world.after(None, "come"), world.span("n")], [(), ("open",), ["close", "come"]])
        self.assertEqual([world.facts, world.moments, world.begins()], [("open",), ("m", "n"), [None, (), ("open",)]])
        self.assertTrue(world.until("n") == like)

    def test_a_state_that_is_passed_is_not_changed(self):
        world, state = wide(), ["c"]
        told = [world.after(state, "nil"), world.leads(state, "third"), world.way(state, state, "third")]
        state.append("a")
        self.assertEqual(told, [("c",), [("c",)], []])

    def test_lists_that_are_returned_are_new(self):
        world = wide()
        calls = [
            world.event_names, world.all_states, world.begins, lambda: world.leads((), "second"),
            lambda: world.way(None, ("c", "a", "b"), "second"), lambda: world.span("second"), lambda: world.span("fourth"),
            lambda: world.way((), (), "second"), lambda: world.until("second").event_names(),
        ]
        for call in calls:
            before = copy.deepcopy(call())
            call().append("x")
            self.assertEqual(call(), before)
            call().clear()
            self.assertEqual(call(), before)
        self.assertTrue(world == wide())

    def test_the_same_call_tells_the_same(self):
        world = wide()
        for _ in range(2):
            self.assertEqual(world.way(None, ("c", "a", "b"), "second"), ["birth", "tag"])
            self.assertEqual(world.leads(None, "second"), wide().leads(None, "second"))


class TestLimits(unittest.TestCase):

    def test_large_worlds_are_quick(self):
        begin = time.perf_counter()
        when = " or ".join(["there and not (a and b)"] * 120)
        for facts, moments in ((["a", "b", "c"], ["k", "l", "m"]), (["a", "b"], ["k", "l", "m", "n"]), (list("abcde"), list("klmnop"))):
            events = [("e" + fact, when, {fact: True}) for fact in facts] + [("n" + fact, "all", {fact: False}) for fact in facts]
            world = World(facts, moments, [*events, ("go", "there", "go"), ("come", "all", facts)])
            for moment in moments[1:]:
                for state in world.all_states():
                    self.assertEqual(world.leads(state, moment), world.all_states())
                    for other in world.all_states():
                        self.assertIsNotNone(world.way(state, other, moment))
        self.assertLess(time.perf_counter() - begin, 20)


if __name__ == "__main__":
    unittest.main()
