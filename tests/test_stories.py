"""Points 3, 12, 13, 14 and 15 of the document: stories."""

import copy
import itertools
import random
import time
import unittest

from allticked.errors import BadCount, BadFormula, BadState, NoEvent, NoStep, NoWord
from allticked.formulas import Formula
from allticked.keepings import Keeping
from allticked.ready import by_question, these
from allticked.stories import Story, harmed, reached, run, stories
from allticked.worlds import World
from tests.plain import drawn, told
from tests.pool import any_objects
from tests.refusing import Refusing

EVENTS = [
    ("close", "open", {"open": False}), ("reopen", "there and not open", {"open": True}),
    ("come", "not there", ["open"]), ("go", "there", "go"),
]
STEPS = [
    ("mark", "shown", "seen", "open"), ("deed", "shown", "tagged", "seen", {}, "stops"),
    ("mark", "done", "kept", "seen and open"), ("deed", "done", "taken", "kept or tagged", "go", "stops"),
]


def mails(spans=None, first="all", moments=("shown", "done")):
    return World(["open"], moments, EVENTS, spans, first)


def full(spans=None, first="all"):
    return Keeping(mails(spans, first), STEPS)


def some_drawn():
    """Return drawn keepings with the most events between two moments that tell all of their stories."""
    rows = [(drawn(1, 60, "a", "mnp", 3, 6), 2), (drawn(2, 25, "", "mnpq", 3, 6), 1), (drawn(3, 25, "cab", "m", 2, 6), 0)]
    return [(one, most) for group, most in rows for one in group]


class TestRun(unittest.TestCase):

    def test_what_it_tells(self):
        keeping = full()
        story = run(keeping, ("open",), [["close", "reopen"]])
        self.assertIsInstance(story, Story)
        self.assertIs(story.keeping, keeping)
        self.assertEqual(story.states, (("open",), ("open",)))
        self.assertEqual(story.events, [["close", "reopen"]])
        self.assertEqual(story.left_out, [])
        self.assertEqual(story.words(), ["open@shown", "there@shown", "open@done", "there@done", "seen", "tagged", "kept", "taken"])

    def test_the_order_at_a_moment(self):
        steps = [("mark", "ticked", "a", "open"), ("deed", "ticked", "b", "a", {"open": False}), ("mark", "ticked", "c", "open")]
        keeping = Keeping(mails(moments=["shown", "ticked", "done"]), steps)
        story = run(keeping, (), [["reopen"], ["reopen", "go", "come", "close"]])
        self.assertEqual(story.states, ((), ("open",), ()))
        self.assertEqual(story.words(), ["there@shown", "open@ticked", "there@ticked", "there@done", "a", "b"])

    def test_what_the_last_steps_do_shows_in_no_state(self):
        self.assertEqual(run(full(), ("open",), [[]]).states, (("open",), ("open",)))
        keeping = Keeping(mails(moments=["shown", "done", "end"]), STEPS)
        self.assertEqual(run(keeping, ("open",), [[], []]).states, (("open",), ("open",), None))

    def test_events_that_cannot_happen_do_nothing(self):
        story = run(full(), (), [["close", "come", "close"]])
        self.assertEqual([story.states, story.events], [((), ()), [["close", "come", "close"]]])
        self.assertEqual(run(full(), None, [["go", "reopen", "go"]]).states, (None, None))

    def test_left_out(self):
        told = {left: run(full(), ("open",), [[]], left).left_out for left in [(), ("tagged",), ("taken",), ("taken", "tagged")]}
        self.assertEqual(told, {(): [], ("tagged",): ["tagged"], ("taken",): ["taken"], ("taken", "tagged"): ["tagged", "taken"]})
        self.assertEqual(run(full(), ("open",), [[]], ["taken", "taken"]).left_out, ["taken"])
        self.assertEqual(run(full(), ("open",), [[]], ["tagged"]).words()[-3:], ["seen", "kept", "taken"])

    def test_left_out_where_the_deed_would_not_take_the_row_anyway(self):
        for state, events in [(None, [[]]), (None, [["come"]]), ((), [["reopen"]])]:
            story = run(full(), state, events, ["tagged", "taken"])
            self.assertEqual(story.left_out, [])
            self.assertTrue(story == run(full(), state, events))
        self.assertEqual(run(full(), ("open",), [["close"]], ["tagged", "taken"]).left_out, ["tagged"])
        self.assertEqual(run(full(), ("open",), [["go"]], ["taken"]).left_out, [])

    def test_one_moment_alone(self):
        keeping = Keeping(World(["a"], ["m"], []), [("deed", "m", "x", "a", "go"), ("mark", "m", "y", "there")])
        story = run(keeping, ["a"], [])
        self.assertEqual(told(story), ((("a",),), [], [], ["a@m", "there@m", "x"]))

    def test_lists_and_tuples(self):
        story = run(full(), ["open"], (("close", "go"),), ("tagged",))
        self.assertEqual(told(story), told(run(full(), ("open",), [["close", "go"]], ["tagged"])))
        self.assertTrue(story == run(full(), ("open",), [["close", "go"]], ["tagged"]))
        self.assertIsInstance(story.events[0], list)

    def test_as_the_document_says(self):
        rng = random.Random(4)
        for one in drawn(5, 120, "ab", "mnp", 5, 6) + drawn(6, 60, "cab", "mn", 5, 6):
            for state in one.begins():
                events = [[rng.choice(names) for _ in range(rng.randint(0, 4)) if names] for names in one.spanned()]
                left = rng.sample(one.stopping(), rng.randint(0, len(one.stopping())))
                states, left_out, words = one.run(state, events, left)
                self.assertEqual(told(run(one.keeping, state, events, left)), (states, events, left_out, words))


class TestRunErrors(Refusing):

    def test_states(self):
        for state in [thing for thing in any_objects() if thing != []] + ["open", ("open", "open"), ("shut",), ("seen",), [None]]:
            self.refused(BadState, [state], run, full(), state, [], [5])

    def test_states_that_a_row_cannot_have_at_the_first_moment(self):
        keeping = full(first="there and not open")
        self.assertEqual(run(keeping, [], [[]]).states, ((), ()))
        for state in (None, ("open",), ["open"]):
            self.refused(BadState, [state], run, keeping, state, [[5]], [5])
        self.refused(BadState, [()], run, full(first="none"), (), [[]])

    def test_counts(self):
        for many in (0, 2, 3):
            self.refused(BadCount, [many], run, full(), (), [["x"]] * many, [5])
            self.refused(BadCount, [many], run, full(), (), tuple([()] * many))
        self.refused(BadCount, [1], run, Keeping(World([], ["m"], []), []), (), [[]])

    def test_left(self):
        for thing in [*any_objects(), None, "seen", "kept", "close", "open", "done", ["taken"], ("taken",)]:
            self.refused(NoStep, [thing], run, full(), (), [["x"]], ["taken", thing, 7])
            self.refused(NoStep, [thing], run, full(), (), [["x"]], (thing,))
        keeping = Keeping(mails(), [("deed", "done", "x", "all", "go"), ("deed", "done", "y", "all", {}, "stops")])
        self.refused(NoStep, ["x"], run, keeping, (), [[]], ["y", "x"])
        self.assertEqual(run(keeping, (), [[]], ["y"]).words()[2:], ["x"])

    def test_events(self):
        for thing in [*any_objects(), None, "open", "shown", "taken", "clos", ["close"], ("close",)]:
            self.refused(NoEvent, [thing], run, full(), (), [["close", thing, 7]])
            self.refused(NoEvent, [thing], run, full(), (), [(thing,)], ["taken"])

    def test_events_of_another_span(self):
        keeping = Keeping(mails({"ticked": ["close"], "done": []}, moments=["shown", "ticked", "done", "end"]), [])
        for at, names in enumerate([["close"], [], ["close", "reopen", "come", "go"]]):
            for name in ("close", "reopen", "come", "go"):
                events = [[], [], []]
                events[at].append(name)
                if name in names:
                    self.assertEqual(run(keeping, (), events).events, events)
                else:
                    self.refused(NoEvent, [name], run, keeping, (), events)
        self.refused(NoEvent, ["go"], run, keeping, (), [["close"], ["go"], [5]])

    def test_in_their_order(self):
        self.refused(BadState, [5], run, full(), 5, [], [5])
        self.refused(BadCount, [0], run, full(), (), [], [5])
        self.refused(NoStep, [5], run, full(), (), [[6]], [5])
        self.refused(NoEvent, [6], run, full(), (), [[6]], [])


class TestStory(Refusing):

    def test_words_are_those_of_the_keeping_in_its_order(self):
        for one, _ in some_drawn():
            for story in stories(one.keeping):
                words = story.words()
                self.assertEqual(words, [word for word in one.keeping.words() if word in words])

    def test_holds(self):
        story = run(full(), ("open",), [["close"]], ["tagged"])
        self.assertIs(story.holds("open@shown and seen and not kept"), True)
        self.assertIs(story.holds("open@done or taken"), False)
        self.assertTrue(story.holds(Formula("there@done and not tagged")))
        self.assertTrue(story.holds("all"))
        self.assertFalse(story.holds("none"))

    def test_holds_refuses(self):
        story = run(full(), ("open",), [[]])
        for thing in [*any_objects(), None, "open@", "seen and", ["seen"]]:
            if not isinstance(thing, Formula):
                self.refused(BadFormula, [thing], story.holds, thing)
        for text, word in [("open", "open"), ("seen and there or x", "there"), ("open@later or x", "open@later"), ("seen@done", "seen@done"),
                           ("shut@done", "shut@done"), ("not (x and y)", "x"), ("close", "close"), ("done", "done")]:
            self.refused(NoWord, [word], story.holds, text)
            self.refused(NoWord, [word], story.holds, Formula(text))

    def test_equal(self):
        like = Keeping(mails(), [("mark", "shown", "seen", "open and open"), *STEPS[1:]])
        self.assertTrue(run(full(), ("open",), [["close"]]) == run(like, ["open"], [("close",)]))
        self.assertFalse(run(full(), ("open",), [["close"]]) != run(like, ("open",), [["close"]]))

    def test_unlike(self):
        story = run(full(), ("open",), [["close"]])
        others = [
            run(full(), (), [["close"]]), run(full(), ("open",), [["close", "close"]]), run(full(), ("open",), [["close"]], ["tagged"]),
            run(full().changed("taken", "none"), ("open",), [["close"]]), run(full(first="there"), ("open",), [["close"]]),
            run(full(), ("open",), [["go", "close", "come", "close"]]),
        ]
        for other in others:
            self.assertFalse(story == other)
            self.assertTrue(other != story)

    def test_a_list_of_events_that_does_nothing_counts(self):
        self.assertFalse(run(full(), (), [["close"]]) == run(full(), (), [[]]))
        self.assertFalse(run(full(), (), [["close", "close"]]) == run(full(), (), [["close"]]))

    def test_equal_to_nothing_else(self):
        story = run(full(), ("open",), [["close"]])
        for thing in [*any_objects(), None, story.states, full()]:
            self.assertIs(story == thing, False)
            self.assertIs(thing == story, False)


class TestStories(unittest.TestCase):

    def test_the_order(self):
        rows = [(story.states, story.events, [name for name in ("tagged", "taken") if story.holds(name)]) for story in stories(full())]
        here, gone = ("open",), None
        self.assertEqual(rows, [
            ((None, None), [[]], []), (((), ()), [[]], []), ((here, here), [[]], []), ((here, here), [[]], ["taken"]),
            ((here, here), [[]], ["tagged"]), ((here, here), [[]], ["tagged", "taken"]),
            ((gone, here), [["come"]], []), (((), gone), [["go"]], []), (((), here), [["reopen"]], []),
            ((here, gone), [["go"]], []), ((here, gone), [["go"]], ["tagged"]), ((here, ()), [["close"]], []),
            ((here, ()), [["close"]], ["tagged"]), ((here, ()), [["close"]], ["tagged", "taken"]),
            ((gone, ()), [["come", "close"]], []),
        ])

    def test_fewer_events_in_all_stand_ahead_of_the_states(self):
        keeping = Keeping(mails({"ticked": ["close", "come"]}, moments=["shown", "ticked", "done"]), [])
        rows = stories(keeping)
        many = [sum(map(len, story.events)) for story in rows]
        self.assertEqual(many, sorted(many))
        self.assertEqual([rows[0].states, rows[-1].states], [(None, None, None), (None, (), ("open",))])
        self.assertEqual([rows[0].events, rows[-1].events], [[[], []], [["come", "close"], ["reopen"]]])
        self.assertEqual([story.states for story in rows if story.events == [[], ["go"]]], [((), (), None), (("open",), ("open",), None)])

    def test_left_out_in_stories(self):
        for story in stories(full()):
            self.assertEqual(told(run(full(), story.states[0], story.events, story.left_out)), told(story))
        rows = [story.left_out for story in stories(full()) if story.states == (("open",), ("open",))]
        self.assertEqual(rows, [["tagged", "taken"], ["tagged"], ["taken"], []])

    def test_a_stop_lets_a_later_step_do_otherwise(self):
        steps = [("deed", "shown", "a", "all", "go", "stops"), ("deed", "shown", "b", "all", {"open": True}), ("mark", "shown", "c", "not a")]
        keeping = Keeping(World(["open"], ["shown", "done"], [], {}, "there and not open"), steps)
        rows = [(story.states, story.left_out, [name for name in "abc" if story.holds(name)]) for story in stories(keeping)]
        self.assertEqual(rows, [(((), None), [], ["a"]), (((), ("open",)), ["a"], ["b", "c"])])

    def test_of_as_many_events_the_first_by_their_order(self):
        events = [("z", "all", {"b": True}), ("y", "all", {"a": True}), ("x", "all", {"b": True, "a": False})]
        keeping = Keeping(World(["a", "b"], ["m", "n"], events, {}, "there and not (a or b)"), [])
        self.assertEqual([story.events for story in stories(keeping)], [[[]], [["y"]], [["z"]], [["z", "y"]]])

    def test_no_steps_and_no_rows(self):
        self.assertEqual([told(story) for story in stories(Keeping(World([], ["m"], []), []))], [((None,), [], [], []), (((),), [], [], ["there@m"])])
        self.assertEqual(stories(full(first="none")), [])
        self.assertEqual([story.states for story in stories(Keeping(World(["a"], ["m", "n"], [], {}, "a"), []))], [(("a",), ("a",))])

    def test_empty_spans(self):
        keeping = Keeping(mails({"done": []}), STEPS)
        self.assertTrue(all(story.states[0] == story.states[1] and story.events == [[]] for story in stories(keeping)))

    def test_as_all_runs_say(self):
        for one, most in some_drawn():
            self.assertEqual([told(story) for story in stories(one.keeping)], one.best(most))

    def test_as_all_runs_say_of_two_facts(self):
        for one in drawn(7, 25, "ba", "mn", 3, 6):
            rows = [told(story) for story in stories(one.keeping)]
            self.assertEqual([row for row in rows if len(row[1][0]) < 4], one.best(3))

    def test_each_other_story_has_the_states_and_taking_deeds_of_one_of_these(self):
        for one in drawn(8, 15, "a", "mn", 2, 5):
            fewest = {(story.states, one.taken(story.words())): len(story.events[0]) for story in stories(one.keeping)}
            for states, events, left_out, words in one.all_runs(4):
                self.assertLessEqual(fewest[(states, one.taken(words))], len(events[0]))

    def test_they_stand_in_their_keeping(self):
        keeping = full()
        self.assertTrue(all(story.keeping is keeping for story in stories(keeping)))


class TestHarmed(Refusing):

    def test_the_first_story(self):
        for one, _ in some_drawn():
            words = one.keeping.words()
            for first, second in itertools.product(words[:4] + words[-4:], repeat=2):
                for text in (f"{first} and not {second}", f"not {first} and not {second}"):
                    expected = [story for story in stories(one.keeping) if story.holds(text)]
                    story = harmed(one.keeping, text)
                    self.assertEqual(None if story is None else told(story), told(expected[0]) if expected else None)

    def test_texts_and_objects(self):
        keeping = full()
        for harm in ("taken and not open@done", Formula("taken and not open@done")):
            story = harmed(keeping, harm)
            self.assertEqual(told(story), ((("open",), ()), [["close"]], [], ["open@shown", "there@shown", "there@done", "seen", "tagged", "taken"]))
            self.assertIs(story.keeping, keeping)
        self.assertIsNone(harmed(keeping, "taken and not seen"))
        self.assertIsNone(harmed(keeping, "none"))
        self.assertEqual(harmed(keeping, "all").states, (None, None))
        self.assertIsNone(harmed(full(first="none"), "all"))

    def test_left_out_rows(self):
        story = harmed(full(), "kept and not taken")
        self.assertEqual([story.left_out, story.events], [["tagged", "taken"], [[]]])

    def test_errors(self):
        keeping = full()
        for thing in [*any_objects(), None, "open@", "seen and", ["seen"]]:
            if not isinstance(thing, Formula):
                self.refused(BadFormula, [thing], harmed, keeping, thing)
                self.refused(BadFormula, [thing], harmed, full(first="none"), thing)
        for text, word in [("open", "open"), ("seen and x or y", "x"), ("open@later", "open@later"), ("there", "there")]:
            self.refused(NoWord, [word], harmed, keeping, text)
            self.refused(NoWord, [word], harmed, full(first="none"), Formula(text))


class TestReached(unittest.TestCase):

    def test_pairs(self):
        here = ("open",)
        self.assertEqual(reached(full()), {
            "shown": [(None, ()), ((), ()), (here, ())],
            "done": [
                (None, ()), (None, ("seen",)), (None, ("seen", "tagged")), ((), ()), ((), ("seen",)), ((), ("seen", "tagged")),
                (here, ()), (here, ("seen",)), (here, ("seen", "tagged")),
            ],
        })

    def test_the_order(self):
        names = ["d", "a", "c"]
        steps = [("deed", "m", name, "there", {}, "stops") for name in names]
        rows = reached(Keeping(World([], ["m", "n"], [("go", "all", "go")]), steps))
        subsets = [row for many in range(4) for row in itertools.combinations(names, many)]
        self.assertEqual(rows["n"], [(None, row) for row in subsets] + [((), row) for row in subsets])
        keeping = Keeping(World(["b", "a"], ["m", "n", "l", "k"], []), [])
        self.assertEqual(list(reached(keeping)), ["m", "n", "l", "k"])
        self.assertEqual([state for state, names in reached(keeping)["k"]], keeping.world.all_states())

    def test_names_stand_by_their_places_whatever_brought_them(self):
        steps = [("mark", "m", "one", "there"), ("mark", "m", "two", "not there"), ("mark", "m", "abc", "not there")]
        rows = reached(Keeping(World([], ["m", "n"], [("go", "all", "go"), ("come", "all", [])]), [*steps, ("mark", "m", "tri", "one")]))
        self.assertEqual(rows["n"], [(state, names) for state in (None, ()) for names in (("one", "tri"), ("two", "abc"))])

    def test_kinds(self):
        rows = reached(full())
        self.assertIsInstance(rows["done"], list)
        self.assertTrue(all(isinstance(pair, tuple) and isinstance(pair[1], tuple) for pair in rows["done"]))

    def test_no_rows_and_one_moment(self):
        self.assertEqual(reached(full(first="none")), {"shown": [], "done": []})
        keeping = Keeping(World(["a"], ["m"], [], {}, "a or not there"), [("mark", "m", "x", "all")])
        self.assertEqual(reached(keeping), {"m": [(None, ()), (("a",), ())]})

    def test_as_all_stories_say(self):
        for one, _ in some_drawn():
            pairs = {moment: {} for moment in one.moments}
            for story in stories(one.keeping):
                for at, moment in enumerate(one.moments):
                    earlier = [step[2] for step in one.steps if one.moments.index(step[1]) < at]
                    pairs[moment][(story.states[at], tuple(name for name in earlier if name in story.words()))] = True
            rows = reached(one.keeping)
            self.assertEqual(list(rows), one.moments)
            places = [step[2] for step in one.steps]
            for moment in one.moments:
                expected = sorted(pairs[moment], key=lambda pair: (
                    one.states().index(pair[0]), len(pair[1]), [places.index(name) for name in pair[1]],
                ))
                self.assertEqual(rows[moment], expected)

    def test_so_it_is_closed(self):
        for one in drawn(9, 15, "ab", "mnp", 4, 5):
            rows = reached(one.keeping)
            self.assertEqual(rows["m"], [(state, ()) for state in one.begins()])
            for story in stories(one.keeping):
                for at, moment in enumerate(one.moments):
                    self.assertIn(story.states[at], [state for state, names in rows[moment]])


class TestConventions(unittest.TestCase):

    def test_what_is_passed_is_not_changed_and_may_be_changed_later(self):
        state, events, left = ["open"], [["close", "reopen"]], ["tagged"]
        passed = copy.deepcopy([state, events, left])
        story = run(full(), state, events, left)
        self.assertEqual([state, events, left], passed)
        before = copy.deepcopy(told(story))
        state.append("x")
        events[0].append("go")
        events.append([])
        left.clear()
        self.assertEqual(told(story), before)

    def test_what_is_done_to_a_told_story_changes_no_later_one(self):
        keeping = full()
        for call in (lambda: stories(keeping), lambda: [harmed(keeping, "taken")], lambda: [run(keeping, ("open",), [["close"]], ["tagged"])]):
            before = [copy.deepcopy(told(story)) for story in call()]
            rows = call()
            for story in rows:
                story.events[0].append("go")
                story.events.append(["x"])
                story.left_out.append("y")
                story.words().clear()
            rows.clear()
            self.assertEqual([told(story) for story in call()], before)

    def test_stories_share_no_lists(self):
        rows = stories(full())
        for story in rows:
            story.events[0].append("x")
            story.left_out.append("x")
        self.assertTrue(all(story.events[0].count("x") == 1 and story.left_out.count("x") == 1 for story in rows))
        self.assertEqual(full().world.way(("open",), (), "done"), ["close"])

    def test_reached_tells_new_lists(self):
        keeping = full()
        before = copy.deepcopy(reached(keeping))
        for rows in reached(keeping).values():
            rows.clear()
        reached(keeping).clear()
        self.assertEqual(reached(keeping), before)

    def test_keepings_stay_as_they_are(self):
        keeping = full()
        for _ in range(2):
            self.assertEqual([told(story) for story in stories(keeping)], [told(story) for story in stories(full())])
            self.assertTrue(stories(keeping) == stories(full()))
            self.assertTrue(keeping == full())

    def test_ready_ones(self):
        world = mails()
        self.assertEqual(harmed(these(world, "shown", "done", "open", "go"), "taken and not open@done").events, [["close"]])
        self.assertIsNone(harmed(by_question(world, "done", "open", "go"), "taken and not open@done"))


class TestLimits(unittest.TestCase):

    def largest(self, facts, moments, stops):
        """Return a keeping with as many stories as there can be, or nearly so."""
        events = [("come", "all", []), ("go", "all", "go")]
        for fact in facts:
            events += [("on" + fact, "all", {fact: True}), ("off" + fact, "all", {fact: False})]
        when = " or ".join(["there and not (a and b)", "a"] * 20)
        steps = [("mark", moments[at], name, when) for at, name in zip((0, 1, -1), ("one", "two", "tri"))]
        steps += [("deed", moments[at], name, "there or " + when, effect, "stops") for at, name, effect in stops]
        steps = sorted(steps, key=lambda step: moments.index(step[1]))
        return Keeping(World(facts, moments, events[:7]), steps)

    def test_large_keepings_are_quick(self):
        begin = time.perf_counter()
        for facts, moments in ((list("abc"), list("klm")), (list("ab"), list("klmn"))):
            for stops in (
                [(-1, "da", {"a": False}), (-1, "db", {}), (-1, "dc", "go")], [(0, "da", {"a": True}), (1, "db", {}), (-1, "dc", "go")],
                [(0, "da", {}), (0, "db", {"b": False}), (0, "dc", "go")],
            ):
                keeping = self.largest(facts, moments, stops)
                for _ in range(6):
                    many = len(stories(keeping))
                    self.assertGreater(many, 1000)
                    self.assertIsNone(harmed(keeping, "da and dc and not (there@k and there@l and there@m) and not one and one or none"))
                    self.assertEqual(len(reached(keeping)), len(moments))
        self.assertLess(time.perf_counter() - begin, 20)

    def test_somewhat_beyond_the_limits(self):
        events = [("on" + fact, "all", {fact: True}) for fact in "abcd"]
        steps = [("deed", "n", "d" + name, "all", {}, "stops") for name in "pqrs"] + [("mark", "n", "m" + name, "dp") for name in "abcde"]
        keeping = Keeping(World(list("abcd"), list("mn"), events), steps)
        self.assertEqual(len(stories(keeping)), 1 + 81 * 16)


if __name__ == "__main__":
    unittest.main()
