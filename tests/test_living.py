"""Points 3 and 29 to 31 of the document: a live list."""

import random
import time
import unittest

from allticked.counts import Count
from allticked.errors import BadCount, BadName, BadState, CannotHappen, NoMoment, NoName, NoStep, NotDone, NoWord
from allticked.keepings import Keeping
from allticked.living import Live
from allticked.stories import Story, run
from allticked.worlds import World
from tests.plain import drawn, told
from tests.pool import any_keys, any_objects
from tests.refusing import Refusing

EVENTS = [
    ("close", "open", {"open": False}), ("reopen", "there and not open", {"open": True}), ("new", "all", ["open"]), ("drop", "there", "go"),
]
HERE = ("open",)
MOMENTS = ["shown", "ticked", "done"]
STEPS = [
    ("mark", "shown", "seen", "open"), ("deed", "ticked", "tagged", "seen", {}, "stops"), ("mark", "ticked", "kept", "open"),
    ("deed", "done", "taken", "kept or tagged", {"open": False}, "stops"), ("deed", "done", "gone", "not open", "go"),
]
ROWS = {"note": [], "bill": ["open"], "card": None}


def mails(spans=None, first="all", moments=MOMENTS):
    return World(["open"], moments, EVENTS, spans, first)


def kept():
    world = World(["open"], ["ticked", "done"], EVENTS)
    return Keeping(world, [("mark", "ticked", "seen", "open"), ("deed", "done", "taken", "open", "go")])


def full(spans=None, first="all"):
    return Keeping(mails(spans, first), STEPS)


def shown(live):
    """Return all that a list tells of itself without being changed."""
    keeping = live.keeping
    rows = [live.now, live.names(), [live.state_of(name) for name in live.names()], [live.holds(name) for name in live.names()]]
    rows.append([live.struck(deed) for deed in keeping.deeds()])
    if live.now == keeping.world.moments[-1]:
        rows.append([told(live.story_of(name)) for name in live.names()])
    return rows


def taken_back(live):
    """Return what a list tells of itself as all is taken back, step by step."""
    rows = [shown(live)]
    while live.undo():
        rows.append(shown(live))
    return rows


def to_the_end(live):
    while live.now != live.keeping.world.moments[-1]:
        live.go()
    return live


class TestList(Refusing):

    def test_the_documents_example(self):
        live = Live(kept(), {"bill": ["open"], "note": [], "card": None})
        self.assertIsNone(live.happens("bill", "close"))
        self.assertIsNone(live.happens("card", "new"))
        self.assertEqual([live.go(), live.holds("card"), live.story_of("bill").states, live.totals([Count({"seen": 1, "taken": -1})])],
                         [{"taken": ["card"]}, ["open@done", "there@done", "taken"], (("open",), ()), [0]])

    def test_names_and_states(self):
        live = Live(full(), ROWS)
        self.assertEqual([live.names(), live.now], [["bill", "card", "note"], "shown"])
        self.assertEqual([live.state_of(name) for name in live.names()], [HERE, None, ()])
        live.go()
        self.assertEqual(live.now, "ticked")

    def test_the_steps_of_the_first_moment_are_done(self):
        steps = [("mark", "shown", "a", "open"), ("deed", "shown", "b", "a", {"open": False}, "stops"), ("mark", "shown", "c", "open")]
        live = Live(Keeping(mails(), steps), ROWS)
        self.assertEqual([live.holds("bill"), live.state_of("bill"), live.struck("b")], [["open@shown", "there@shown", "a", "b"], (), ["bill"]])
        self.assertFalse(live.undo())

    def test_what_holds_by_now(self):
        live = Live(full(), ROWS)
        self.assertEqual([live.holds(name) for name in live.names()], [["open@shown", "there@shown", "seen"], [], ["there@shown"]])
        live.happens("bill", "close")
        self.assertEqual([live.holds("bill"), live.state_of("bill")], [["open@shown", "there@shown", "seen"], ()])
        live.go()
        self.assertEqual(live.holds("bill"), ["open@shown", "there@shown", "there@ticked", "seen", "tagged"])
        live.happens("bill", "drop")
        live.go()
        self.assertEqual(live.holds("bill"), ["open@shown", "there@shown", "there@ticked", "seen", "tagged"])
        self.assertEqual(live.holds("note"), ["there@shown", "there@ticked", "there@done", "gone"])

    def test_a_moment_with_several_deeds(self):
        live = Live(full(), {**ROWS, "file": ["open"], "copy": []})
        live.stop("file", "tagged")
        self.assertEqual(live.go(), {"tagged": ["bill"]})
        self.assertEqual(live.struck("taken"), [])
        live.happens("copy", "reopen")
        told_taken = live.go()
        self.assertEqual([told_taken, list(told_taken)], [{"taken": ["bill", "file"], "gone": ["bill", "file", "note"]}, ["taken", "gone"]])
        self.assertEqual([live.struck(deed) for deed in ("tagged", "taken", "gone")], [["bill"], ["bill", "file"], ["bill", "file", "note"]])
        self.assertEqual([live.state_of(name) for name in live.names()], [None, None, HERE, None, None])

    def test_moments_without_deeds(self):
        live = Live(Keeping(mails(), STEPS[:1]), ROWS)
        self.assertEqual([live.go(), live.go()], [{}, {}])

    def test_no_rows(self):
        live = Live(full(), {})
        self.assertEqual([live.names(), live.go(), live.go(), live.struck("gone")], [[], {"tagged": []}, {"taken": [], "gone": []}, []])
        self.assertEqual([live.totals([Count({"seen": 1}), Count({})]), live.totals([])], [[0, 0], []])
        self.assertEqual([live.undo(), live.undo(), live.undo(), live.now], [True, True, False, "shown"])

    def test_stops(self):
        live = Live(full(), ROWS)
        live.stop("bill", "tagged")
        live.stop("bill", "taken")
        self.assertEqual([live.go(), live.go()], [{"tagged": []}, {"taken": [], "gone": ["note"]}])
        self.assertEqual([live.story_of("bill").left_out, live.state_of("bill")], [["tagged", "taken"], HERE])

    def test_a_stop_said_twice_and_taken_back_once(self):
        live = Live(full(), ROWS)
        live.stop("bill", "tagged")
        live.stop("bill", "tagged")
        self.assertTrue(live.undo())
        self.assertEqual(live.go(), {"tagged": []})
        self.assertEqual([live.undo(), live.undo()], [True, True])
        self.assertEqual([live.go(), live.undo(), live.undo()], [{"tagged": ["bill"]}, True, False])

    def test_a_stop_of_a_deed_that_would_not_take_the_row_anyway(self):
        live = to_the_end(Live(full(), ROWS))
        other = Live(full(), ROWS)
        other.stop("card", "taken")
        other.stop("note", "tagged")
        to_the_end(other)
        self.assertEqual(shown(other), shown(live))
        self.assertEqual([other.story_of(name).left_out for name in ("card", "note")], [[], []])

    def test_an_event_that_happens_to_one_row_happens_to_no_other(self):
        live = Live(full(), {"a": ["open"], "b": ["open"]})
        live.happens("a", "close")
        self.assertEqual([live.state_of("a"), live.state_of("b")], [(), HERE])

    def test_one_moment_alone(self):
        live = Live(Keeping(World(["open"], ["done"], EVENTS), [("deed", "done", "x", "open", "go")]), ROWS)
        self.assertEqual([live.struck("x"), told(live.story_of("bill"))], [["bill"], ((HERE,), [], [], ["open@done", "there@done", "x"])])
        self.refused(CannotHappen, ["new"], live.happens, "card", "new")
        self.refused(NoMoment, ["done"], live.go)


class TestStories(Refusing):

    def test_it_is_the_story_of_a_run(self):
        keeping = full()
        live = Live(keeping, ROWS)
        for name, event in [("bill", "close"), ("card", "new"), ("card", "close"), ("card", "drop")]:
            live.happens(name, event)
        live.stop("bill", "tagged")
        live.go()
        live.happens("card", "new")
        live.stop("note", "taken")
        live.go()
        self.assertTrue(live.story_of("bill") == run(keeping, ["open"], [["close"], []], ["tagged"]))
        self.assertTrue(live.story_of("card") == run(keeping, None, [["new", "close", "drop"], ["new"]]))
        self.assertTrue(live.story_of("note") == run(keeping, (), [[], []]))
        self.assertIsInstance(live.story_of("note"), Story)
        self.assertIs(live.story_of("note").keeping, keeping)

    def test_totals(self):
        live = Live(full(), {**ROWS, "file": ["open"]})
        live.stop("file", "taken")
        to_the_end(live)
        counts = [Count({"seen": 1, "taken": -1}), Count({"gone": 10, "there@done": -1, "all": 100}), Count({})]
        self.assertEqual([live.totals(counts), live.totals(tuple(counts))], [[1, 417, 0]] * 2)

    def test_as_runs_say(self):
        rng = random.Random(1)
        events_done = 0
        for one in drawn(2, 150, "ab", "mnp", 5, 6):
            states = one.begins()
            if not states:
                continue
            rows = {name: rng.choice(states) for name in rng.sample(["aa", "bb", "cc", "dd"], rng.randint(1, 4))}
            live = Live(one.keeping, {name: state if state is None else list(state) for name, state in rows.items()})
            done = {name: [[] for _ in one.moments[1:]] for name in rows}
            left = {name: rng.sample(one.stopping(), rng.randint(0, len(one.stopping()))) for name in rows}
            first = [step[2] for step in one.steps if step[1] == "m"]
            for name in rows:
                left[name] = [deed for deed in left[name] if deed not in first]
                for deed in left[name]:
                    live.stop(name, deed)
            for at, names in enumerate(one.spanned()):
                for _ in range(6):
                    name = rng.choice(list(rows))
                    can = [event for event in names if one.keeping.world.can(live.state_of(name), event)]
                    if can:
                        event = rng.choice(can)
                        live.happens(name, event)
                        done[name][at].append(event)
                        events_done += 1
                taken = live.go()
                deeds = [step[2] for step in one.steps if step[0] == "deed" and step[1] == live.now]
                self.assertEqual(list(taken), deeds)
                for deed in deeds:
                    words = {name: one.run(rows[name], done[name], left[name])[2] for name in rows}
                    self.assertEqual(taken[deed], sorted(name for name in rows if deed in words[name]))
                    self.assertEqual(live.struck(deed), taken[deed])
            for name in rows:
                states, left_out, words = one.run(rows[name], done[name], left[name])
                self.assertEqual(told(live.story_of(name)), (states, done[name], left_out, words))
                self.assertEqual(live.holds(name), words)
                self.assertTrue(live.story_of(name) == run(one.keeping, rows[name], done[name], left[name]))
        self.assertGreater(events_done, 300)


class TestUndo(Refusing):

    def test_step_by_step(self):
        live = Live(full(), ROWS)
        rows = [shown(live)]
        for call, passed in [
            (live.happens, ("bill", "close")), (live.happens, ("card", "new")), (live.go, ()), (live.stop, ("bill", "taken")),
            (live.happens, ("bill", "reopen")), (live.go, ()),
        ]:
            call(*passed)
            rows.append(shown(live))
        self.assertEqual(taken_back(live), rows[::-1])
        self.assertFalse(live.undo())
        self.assertFalse(live.undo())

    def test_undo_and_on(self):
        live = Live(full(), ROWS)
        live.happens("bill", "close")
        self.assertIs(live.undo(), True)
        live.happens("bill", "drop")
        live.go()
        live.undo()
        live.happens("note", "reopen")
        to_the_end(live)
        self.assertEqual([live.story_of("bill").events, live.story_of("note").events], [[["drop"], []], [["reopen"], []]])
        self.assertEqual([live.undo() for _ in range(5)], [True, True, True, True, False])

    def test_errors_change_nothing(self):
        live = Live(full(), ROWS)
        live.happens("bill", "close")
        live.go()
        before = shown(live)
        for kind, attributes, call, passed in [
            (CannotHappen, ["close"], live.happens, ("bill", "close")), (NoName, ["x"], live.happens, ("x", "close")),
            (NoStep, ["tagged"], live.stop, ("bill", "tagged")), (NoStep, ["x"], live.struck, ("x",)), (NotDone, ["ticked"], live.story_of, ("bill",)),
        ]:
            self.refused(kind, attributes, call, *passed)
        self.assertEqual(shown(live), before)
        live.go()
        self.refused(NoMoment, ["done"], live.go)
        self.assertEqual([live.undo(), live.undo(), live.undo(), live.undo()], [True, True, True, False])


class TestCopy(unittest.TestCase):

    def test_a_copy_lives_on_its_own(self):
        live = Live(full(), ROWS)
        live.happens("bill", "close")
        other = live.copy()
        self.assertIsInstance(other, Live)
        self.assertEqual(shown(other), shown(live))
        other.stop("bill", "tagged")
        self.assertEqual(live.go(), {"tagged": ["bill"]})
        self.assertEqual([other.now, other.go()], ["shown", {"tagged": []}])
        self.assertEqual([live.now, live.struck("tagged")], ["ticked", ["bill"]])

    def test_what_can_be_taken_back_is_copied(self):
        live = Live(full(), ROWS)
        live.happens("bill", "close")
        live.go()
        live.stop("note", "taken")
        other = live.copy()
        self.assertEqual(taken_back(other), taken_back(live.copy()))
        self.assertFalse(other.undo())
        self.assertEqual([live.now, live.undo(), live.undo(), live.undo(), live.undo()], ["ticked", True, True, True, False])

    def test_a_copy_of_a_copy(self):
        live = Live(full(), ROWS)
        live.go()
        other = live.copy().copy()
        live.undo()
        self.assertEqual([live.now, other.now, other.undo(), other.undo()], ["shown", "ticked", True, False])


class TestTried(unittest.TestCase):

    def test_what_it_returns_and_leaves(self):
        live = Live(full(), ROWS)
        live.happens("bill", "close")
        before = shown(live)
        thing = object()

        def work(passed):
            self.assertIs(passed, live)
            passed.happens("card", "new")
            passed.stop("bill", "tagged")
            self.assertEqual(passed.go(), {"tagged": []})
            return thing

        self.assertIs(live.tried(work), thing)
        self.assertEqual(shown(live), before)
        self.assertEqual([live.undo(), live.undo()], [True, False])

    def test_what_is_taken_back_within(self):
        live = Live(full(), ROWS)
        live.happens("bill", "close")
        live.go()
        before = taken_back(live.copy())
        self.assertEqual(live.tried(lambda one: [one.undo(), one.undo(), one.undo(), one.now]), [True, True, False, "shown"])
        self.assertEqual(taken_back(live), before)

    def test_errors_leave_it_as_it_was(self):
        def refused(one):
            one.happens("card", "new")
            one.undo()
            one.undo()
            one.go()
            one.happens("note", "close")

        def broken(one):
            one.stop("bill", "taken")
            one.go()
            return {}["x"]

        for work, kind in ((refused, CannotHappen), (broken, KeyError)):
            live = Live(full(), ROWS)
            live.happens("bill", "close")
            before = taken_back(live.copy())
            with self.assertRaises(kind):
                live.tried(work)
            self.assertEqual(shown(live), before[0])
            self.assertEqual(taken_back(live), before)

    def test_within_one_another(self):
        live = Live(full(), ROWS)
        live.happens("bill", "close")
        before = taken_back(live.copy())

        def inner(one):
            one.happens("note", "reopen")
            one.go()
            return shown(one)

        def outer(one):
            one.happens("card", "new")
            begun = taken_back(one.copy())
            rows = one.tried(inner)
            self.assertEqual(taken_back(one.copy()), begun)
            with self.assertRaises(BadCount):
                one.tried(failing)
            self.assertEqual(taken_back(one.copy()), begun)
            one.undo()
            return rows

        def failing(one):
            one.tried(inner)
            one.go()
            raise BadCount(7)

        rows = live.tried(outer)
        self.assertEqual([rows[0], rows[2]], ["ticked", [(), HERE, HERE]])
        self.assertEqual(taken_back(live), before)

    def test_a_copy_made_within(self):
        live = Live(full(), ROWS)
        live.happens("bill", "close")

        def work(one):
            one.happens("card", "new")
            other = one.copy()
            one.go()
            return other

        other = live.tried(work)
        self.assertEqual([other.state_of("card"), live.state_of("card"), other.now], [HERE, None, "shown"])
        self.assertEqual([other.undo(), other.undo(), other.undo(), live.undo(), live.undo()], [True, True, False, True, False])

    def test_on_a_copy_within(self):
        live = Live(full(), ROWS)
        other = live.copy()
        self.assertEqual(live.tried(lambda one: [other.tried(lambda two: two.go()), other.go(), one.now]), [{"tagged": ["bill"]}, {"tagged": ["bill"]}, "shown"])
        self.assertEqual([live.now, other.now], ["shown", "ticked"])

    def test_tried_and_on(self):
        live = Live(full(), ROWS)
        live.tried(lambda one: one.go())
        live.happens("bill", "close")
        live.tried(lambda one: one.undo())
        live.go()
        self.assertEqual([live.struck("tagged"), live.undo(), live.undo(), live.undo()], [["bill"], True, True, False])


class TestErrors(Refusing):

    def test_names_of_rows(self):
        for thing in [*any_keys(), "there", "all", "toolongname", "ab1", Keeping]:
            self.refused(BadName, [thing], Live, full(), {"bill": 5, thing: None, "a b": None})
            self.refused(BadName, [thing], Live, full(), {thing: 5})

    def test_states_of_rows(self):
        for thing in [*any_objects(), "open", ("open", "open"), [["open"]], ("shut",), "go"]:
            if thing != []:
                self.refused(BadState, [thing], Live, full(), {"bill": [], "card": thing, "note": 5})
        for thing in (None, [], ()):
            self.refused(BadState, [thing], Live, full(first="open"), {"bill": ["open"], "card": thing})

    def test_names_that_no_row_has(self):
        live = Live(full(), ROWS)
        for thing in [*any_objects(), None, "open", "bil", ["bill"], ("bill",)]:
            for call, more in [(live.state_of, []), (live.holds, []), (live.happens, [5]), (live.stop, [5])]:
                self.refused(NoName, [thing], call, thing, *more)
        to_the_end(live)
        for thing in [*any_objects(), None, "open", ["bill"]]:
            self.refused(NoName, [thing], live.story_of, thing)

    def test_deeds(self):
        live = Live(full(), ROWS)
        for thing in [*any_objects(), None, "seen", "kept", "open", "done", ["taken"], ("taken",)]:
            self.refused(NoStep, [thing], live.struck, thing)
            self.refused(NoStep, [thing], live.stop, "bill", thing)
        self.refused(NoStep, ["gone"], live.stop, "bill", "gone")
        live.go()
        self.refused(NoStep, ["tagged"], live.stop, "bill", "tagged")
        live.stop("bill", "taken")
        live.go()
        self.refused(NoStep, ["taken"], live.stop, "bill", "taken")
        steps = [("deed", "shown", "x", "all", {}, "stops")]
        self.refused(NoStep, ["x"], Live(Keeping(mails(), steps), ROWS).stop, "bill", "x")

    def test_events(self):
        live = Live(full({"ticked": ["close", "new"], "done": ["drop"]}), ROWS)
        for thing in [*any_objects(), None, "open", "taken", "clos", ["close"], ("close",)]:
            self.refused(CannotHappen, [thing], live.happens, "bill", thing)
        for name, event in [("bill", "drop"), ("bill", "new"), ("bill", "reopen"), ("card", "close"), ("note", "close"), ("note", "reopen")]:
            self.refused(CannotHappen, [event], live.happens, name, event)
        live.happens("bill", "close")
        live.happens("card", "new")
        live.go()
        self.refused(CannotHappen, ["close"], live.happens, "card", "close")
        live.happens("card", "drop")
        live.go()
        for event in ("close", "reopen", "new", "drop", 5):
            for name in live.names():
                self.refused(CannotHappen, [event], live.happens, name, event)

    def test_not_done(self):
        live = Live(full(), ROWS)
        for moment in ("shown", "ticked"):
            self.assertEqual(live.now, moment)
            self.refused(NotDone, [moment], live.story_of, 5)
            self.refused(NotDone, [moment], live.totals, [Count({"x": 1})])
            live.go()
        self.refused(NoName, [5], live.story_of, 5)
        self.refused(NoMoment, ["done"], live.go)

    def test_words_of_totals(self):
        for rows in (ROWS, {}):
            live = to_the_end(Live(full(), rows))
            counts = [Count({"seen": 1}), Count({"taken or u and v": 0, "w": 1}), Count({"x": 1})]
            self.refused(NoWord, ["u"], live.totals, counts)
            self.refused(NoWord, ["x"], live.totals, tuple(counts[::-1]))


class TestConventions(unittest.TestCase):

    def test_later_changes_have_no_effect(self):
        rows = {"bill": ["open"], "card": None}
        live = Live(full(), rows)
        rows["bill"].clear()
        rows["note"] = []
        del rows["card"]
        self.assertEqual([live.names(), live.state_of("bill")], [["bill", "card"], HERE])

    def test_what_is_passed_stays_as_it_is(self):
        rows = {"note": [], "bill": ["open"]}
        live = Live(full(), rows)
        live.happens("bill", "close")
        to_the_end(live)
        self.assertEqual([rows, list(rows)], [{"note": [], "bill": ["open"]}, ["note", "bill"]])

    def test_what_is_told_is_new(self):
        live = Live(full(), ROWS)
        live.happens("bill", "close")
        live.names().clear()
        live.holds("bill").clear()
        live.struck("tagged").append("x")
        taken = live.go()
        taken["tagged"].append("x")
        taken.clear()
        live.go()
        before = shown(live)
        story = live.story_of("bill")
        story.events[0].append("x")
        story.events.clear()
        story.left_out.append("y")
        live.totals([Count({})]).clear()
        self.assertEqual(shown(live), before)

    def test_tuples_and_lists(self):
        one, other = Live(full(), {"bill": ["open"]}), Live(full(), {"bill": ("open",)})
        self.assertEqual(shown(to_the_end(one)), shown(to_the_end(other)))


class TestLimits(unittest.TestCase):

    def test_thirty_rows_and_some_hundred_calls_are_quick(self):
        begin = time.perf_counter()
        names = [one + other for one in "abcdef" for other in "vwxyz"]
        counts = [Count({"seen": 1, "taken": -1}), Count({"gone and not kept": 1, "tagged": -1})]
        for _ in range(10):
            live = Live(full(), dict.fromkeys(names, ("open",)))
            copies = []
            for moment in MOMENTS[1:]:
                for name in names:
                    for event in ("close", "drop", "new", "close", "reopen"):
                        live.happens(name, event)
                    live.stop(name, "taken")
                    copies.append(live.copy())
                live.go()
            for one in copies[-10:]:
                one.tried(to_the_end)
            for _ in range(10):
                live.totals(counts)
            self.assertEqual(sum(live.undo() for _ in range(1000)), 362)
        self.assertLess(time.perf_counter() - begin, 10)


if __name__ == "__main__":
    unittest.main()
