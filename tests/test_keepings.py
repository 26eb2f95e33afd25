"""Points 3, 9 and 10 of the document: keepings."""

import copy
import unittest

from allticked.errors import BadFormula, BadStep, NoStep, NoWord, TickError
from allticked.formulas import Formula
from allticked.keepings import Keeping
from allticked.stories import run, stories
from allticked.worlds import World
from tests.pool import any_keys, any_objects

EVENTS = [
    ("close", "open", {"open": False}), ("reopen", "there and not open", {"open": True}),
    ("come", "not there", ["open"]), ("go", "there", "go"),
]
STEPS = [
    ("mark", "shown", "seen", "open or mine"),
    ("deed", "ticked", "tagged", "there and not seen", {"mine": True, "open": False}),
    ("mark", "ticked", "kept", "mine and seen"),
    ("deed", "done", "taken", "kept or tagged", "go", "stops"),
    ("deed", "done", "rest", "all", {}, "stops"),
]


def mails(events=None):
    return World(["open", "mine"], ["shown", "ticked", "done"], EVENTS if events is None else events)


def full():
    return Keeping(mails(), STEPS)


def held(keeping, state, left=()):
    """Return the names of the steps that hold of a row to which nothing happens."""
    words = run(keeping, state, [[] for _ in keeping.world.moments[1:]], left).words()
    return [name for name in keeping.names() if name in words]


class TestWhatItTells(unittest.TestCase):

    def test_world(self):
        world = mails()
        self.assertIs(Keeping(world, []).world, world)
        self.assertTrue(full().world == mails())

    def test_names_and_deeds(self):
        self.assertEqual(full().names(), ["seen", "tagged", "kept", "taken", "rest"])
        self.assertEqual(full().deeds(), ["tagged", "taken", "rest"])
        self.assertEqual(full().stopping(), ["taken", "rest"])

    def test_words(self):
        self.assertEqual(full().words(), [
            "open@shown", "mine@shown", "there@shown", "open@ticked", "mine@ticked", "there@ticked", "open@done", "mine@done",
            "there@done", "seen", "tagged", "kept", "taken", "rest",
        ])

    def test_no_steps(self):
        keeping = Keeping(mails(), [])
        self.assertEqual([keeping.names(), keeping.deeds(), keeping.stopping()], [[], [], []])
        self.assertEqual(len(keeping.words()), 9)
        self.assertTrue(keeping == Keeping(mails(), ()))

    def test_a_world_of_one_moment_and_no_fact(self):
        keeping = Keeping(World([], ["m"], []), [("deed", "m", "x", "all", {}), ("mark", "m", "y", "x")])
        self.assertEqual(keeping.words(), ["there@m", "x", "y"])
        self.assertEqual([keeping.deeds(), keeping.stopping(), keeping.effect_of("x")], [["x"], [], {}])

    def test_formula(self):
        told = [full().formula(name) for name in full().names()]
        self.assertEqual([str(formula) for formula in told], [step[3] for step in STEPS])
        self.assertTrue(all(isinstance(formula, Formula) for formula in told))

    def test_moment_of(self):
        self.assertEqual([full().moment_of(name) for name in full().names()], [step[1] for step in STEPS])

    def test_effect_of(self):
        told = [full().effect_of(name) for name in full().names()]
        self.assertEqual(told, [None, {"mine": True, "open": False}, None, "go", {}])

    def test_no_step(self):
        keeping = full()
        for name in [*any_objects(), None, "open", "shown", "there", "close", "take", "taken ", ["taken"], ("seen",)]:
            for method in (keeping.formula, keeping.moment_of, keeping.effect_of):
                with self.assertRaises(NoStep) as caught:
                    method(name)
                self.assertIs(caught.exception.name, name)


class TestSteps(unittest.TestCase):

    def refused(self, index, steps, world=None):
        with self.assertRaises(TickError) as caught:
            Keeping(mails() if world is None else world, steps)
        self.assertEqual(type(caught.exception), BadStep)
        self.assertEqual(caught.exception.index, index)

    def refused_anywhere(self, thing):
        self.refused(0, [thing, *STEPS])
        self.refused(1, [STEPS[0], thing, 5, STEPS[3]])
        self.refused(5, [*STEPS, thing])

    def test_any_objects(self):
        for thing in [*any_objects(), None, "mark", "deed", (), ("mark",), ("mark", "done", "x"), {"mark": 1, "done": 2, "x": 3, "all": 4}]:
            self.refused_anywhere(thing)

    def test_any_objects_in_each_place(self):
        for index, step in enumerate(STEPS):
            for at in range(len(step)):
                for thing in [*any_objects(), None]:
                    if at != 4 or thing not in ({}, {"open": True}):
                        self.refused(index, [*STEPS[:index], step[:at] + (thing,) + step[at + 1:], *STEPS[index + 1:]])

    def test_kinds(self):
        self.refused_anywhere(("marks", "done", "x", "all"))
        self.refused_anywhere(("mark", "done", "x", "all", "go"))
        self.refused_anywhere(("mark", "done", "x", "all", "stops"))
        self.refused_anywhere(("mark", "done", "x", "all", None))
        self.refused_anywhere(("deed", "done", "x", "all"))
        self.refused_anywhere(("deed", "done", "x", "all", "stops"))
        self.refused_anywhere(("deed", "done", "x", "all", "go", "stop"))
        self.refused_anywhere(("deed", "done", "x", "all", "go", ["stops"]))
        self.refused_anywhere(("deed", "done", "x", "all", "stops", "go"))
        self.refused_anywhere(("deed", "done", "x", "all", "go", "stops", "stops"))
        self.refused_anywhere(("deed", "done", "x", "all", "go", None))

    def test_effects(self):
        wrong = ["", "gone", ["go"], ["open"], [], (), ("open",), None, True, {"open": 1}, {"open": 0}, {"open": None}, {"there": True},
                 {"shut": True}, {"open": True, None: True}, {"open": "go"}, {"open": [True]}, {"open@done": True}, {"go"}]
        for effect in wrong:
            self.refused_anywhere(("deed", "done", "x", "all", effect))
            self.refused_anywhere(("deed", "done", "x", "all", effect, "stops"))
        for key in any_keys():
            self.refused_anywhere(("deed", "done", "x", "all", {"open": True, key: True}))
        for effect in ({}, {"open": False}, {"mine": True, "open": True}, "go"):
            self.assertEqual(Keeping(mails(), [("deed", "done", "x", "all", effect)]).effect_of("x"), effect)

    def test_moments(self):
        for moment in ("open", "later", "", "there", "seen"):
            self.refused_anywhere(("mark", moment, "x", "all"))

    def test_names(self):
        for name in ("open", "mine", "shown", "done", "there", "all", "none", "and", "seen", "abcdefghi", "A", ""):
            self.refused(1, [STEPS[0], ("mark", "done", name, "all"), 5])
            self.refused(1, [STEPS[0], ("deed", "done", name, "all", "go"), 5])
        for name in ("close", "go", "mark", "deed", "stops", "abcdefgh"):
            self.assertEqual(Keeping(mails(), [("mark", "done", name, "all")]).names(), [name])

    def test_words(self):
        for word in ("x", "taken", "kept", "close", "shown", "open@done", "there@shown", "seen@shown", "shut"):
            self.refused(1, [STEPS[0], ("mark", "done", "x", f"open and {word}"), ("mark", "done", "taken", "all")])
            self.refused(1, [STEPS[0], ("deed", "done", "x", Formula(word), "go"), ("mark", "done", "taken", "all")])
        Keeping(mails(), [STEPS[0], ("mark", "done", "x", "open and mine or there and seen and all or none")])

    def test_formulas(self):
        for text in ("", "open and", "not", "(open", "open  and mine", None, 1, ["open"], "Open"):
            self.refused_anywhere(("mark", "done", "x", text))

    def test_behind_one_of_a_later_moment(self):
        self.refused(2, [STEPS[0], ("mark", "ticked", "x", "all"), ("mark", "shown", "y", "all"), ("mark", "done", "z", "all")])
        self.refused(1, [("mark", "done", "x", "all"), ("mark", "shown", "y", "all"), 5])
        self.refused(2, [("mark", "shown", "x", "all"), ("mark", "done", "y", "all"), ("deed", "ticked", "z", "all", "go")])
        self.refused(0, [5, ("mark", "done", "x", "all"), ("mark", "shown", "y", "all")])
        self.refused(1, [("mark", "done", "x", "all"), 5, ("mark", "shown", "y", "all")])
        Keeping(mails(), [("mark", "ticked", "x", "all"), ("deed", "ticked", "y", "all", "go"), ("mark", "ticked", "z", "x")])

    def test_lists_may_be_passed_for_tuples(self):
        lists = [[*step[:3], Formula(step[3]), *step[4:]] for step in STEPS]
        self.assertTrue(Keeping(mails(), tuple(lists)) == full())


class TestWhatStepsDo(unittest.TestCase):

    def test_a_mark_holds_of_rows_that_are_not_there_too(self):
        keeping = Keeping(mails(), [("mark", "done", "x", "not open"), ("mark", "done", "y", "not there"), ("mark", "done", "z", "all")])
        self.assertEqual([held(keeping, state) for state in (None, (), ("open",))], [["x", "y", "z"], ["x", "z"], ["z"]])

    def test_a_deed_takes_only_rows_that_are_there(self):
        keeping = Keeping(mails(), [("deed", "done", "x", "all", "go"), ("deed", "done", "y", "all", {}), ("deed", "done", "z", "x", {})])
        self.assertEqual([held(keeping, state) for state in (None, (), ("open",))], [[], ["x"], ["x"]])

    def test_a_deed_takes_only_rows_for_which_its_formula_holds(self):
        keeping = Keeping(mails(), [("deed", "shown", "x", "open and not mine", {"mine": True}), ("deed", "ticked", "y", "mine", "go")])
        told = [run(keeping, state, [[], []]).states for state in (("open",), ("mine",), ())]
        self.assertEqual(told, [(("open",), ("open", "mine"), None), (("mine",), ("mine",), None), ((), (), ())])

    def test_later_steps_of_a_moment_look_at_the_row_behind_earlier_ones(self):
        keeping = Keeping(mails(), [
            ("mark", "shown", "a", "open"), ("deed", "shown", "b", "a", {"open": False, "mine": True}), ("mark", "shown", "c", "open"),
            ("mark", "shown", "d", "mine and b and not c"), ("deed", "shown", "e", "d", "go"), ("mark", "shown", "f", "there"),
            ("deed", "shown", "g", "all", {}),
        ])
        self.assertEqual(held(keeping, ("open",)), ["a", "b", "d", "e"])
        self.assertEqual(held(keeping, ("mine",)), ["f", "g"])
        self.assertEqual(run(keeping, ("open",), [[], []]).states, (("open",), None, None))

    def test_a_mark_tells_of_the_row_as_it_was(self):
        keeping = Keeping(mails(), [("mark", "shown", "a", "open"), ("mark", "done", "b", "open"), ("mark", "done", "c", "a and not open")])
        words = run(keeping, ("open",), [[], ["close"]]).words()
        self.assertEqual([name for name in "abc" if name in words], ["a", "c"])

    def test_a_deed_that_may_be_stopped(self):
        self.assertEqual(held(full(), ("mine",)), ["seen", "kept", "taken"])
        self.assertEqual(held(full(), ("mine",), ["taken"]), ["seen", "kept", "rest"])
        self.assertEqual(held(full(), ("mine",), ["taken", "rest"]), ["seen", "kept"])
        self.assertEqual(held(full(), ()), ["tagged", "taken"])

    def test_an_effect_keeps_the_order_of_the_facts(self):
        keeping = Keeping(mails(), [("deed", "shown", "x", "all", {"mine": True, "open": True})])
        self.assertEqual(run(keeping, (), [[], []]).states[1], ("open", "mine"))
        self.assertEqual(run(keeping, ("mine",), [[], []]).states[1], ("open", "mine"))


class TestChanged(unittest.TestCase):

    def test_changed(self):
        changed = full().changed("kept", "open or tagged")
        steps = [*STEPS[:2], (*STEPS[2][:3], "tagged or open"), *STEPS[3:]]
        self.assertTrue(changed == Keeping(mails(), steps))
        self.assertEqual(str(changed.formula("kept")), "open or tagged")
        self.assertTrue(full() == Keeping(mails(), STEPS))

    def test_each_step_can_be_changed(self):
        for at, step in enumerate(STEPS):
            changed = full().changed(step[2], Formula("not there"))
            self.assertTrue(changed == Keeping(mails(), [*STEPS[:at], (*step[:3], "not there", *step[4:]), *STEPS[at + 1:]]))
            self.assertEqual(changed.stopping(), ["taken", "rest"])
            self.assertFalse(changed == full())

    def test_the_keeping_itself_stays(self):
        keeping = full()
        keeping.changed("rest", "none")
        self.assertTrue(keeping == full())
        self.assertEqual(str(keeping.formula("rest")), "all")

    def test_errors(self):
        keeping = full()
        for name in [*any_objects(), None, "open", "shown", "then"]:
            with self.assertRaises(NoStep) as caught:
                keeping.changed(name, 5)
            self.assertIs(caught.exception.name, name)
        for text in [*any_objects(), None, "open and", ["open"]]:
            if not isinstance(text, Formula):
                with self.assertRaises(BadFormula) as caught:
                    keeping.changed("kept", text)
                self.assertIs(caught.exception.text, text)

    def test_words_that_this_step_cannot_have(self):
        for name, text, word in [
            ("seen", "open and seen", "seen"), ("seen", "mine or tagged and kept", "tagged"), ("kept", "seen and tagged and kept", "kept"),
            ("kept", "taken or x", "taken"), ("kept", "x or taken", "x"), ("rest", "taken and open@done", "open@done"),
            ("rest", "there@shown", "there@shown"), ("taken", "rest", "rest"), ("taken", "done", "done"), ("rest", "seen@done", "seen@done"),
        ]:
            for formula in (text, Formula(text)):
                with self.assertRaises(NoWord) as caught:
                    full().changed(name, formula)
                self.assertEqual(caught.exception.word, word)
        self.assertEqual(full().changed("rest", "taken and kept and seen").names(), full().names())


class TestEqual(unittest.TestCase):

    def test_equal(self):
        other = [
            ("mark", "shown", "seen", "not (not mine and not open)"),
            ("deed", "ticked", "tagged", "there and (there or seen) and not seen", {"open": False, "mine": True}),
            ["mark", "ticked", "kept", "seen and mine or none"],
            ("deed", "done", "taken", Formula("tagged or kept"), "go", "stops"),
            ("deed", "done", "rest", "open or not open", {}, "stops"),
        ]
        like = mails([("close", "there and open", {"open": False}), *EVENTS[1:]])
        self.assertTrue(full() == Keeping(like, other))
        self.assertFalse(full() != Keeping(like, other))

    def test_unlike(self):
        def other(at, step):
            return Keeping(mails(), [*STEPS[:at], step, *STEPS[at + 1:]])
        unlike = [
            Keeping(mails(), []), Keeping(mails(), STEPS[:4]), Keeping(mails(EVENTS[:3]), STEPS), Keeping(mails(EVENTS[::-1]), STEPS),
            other(0, ("mark", "shown", "seen", "open and mine")), other(1, ("deed", "ticked", "tagged", "there and not seen", {"mine": True})),
            other(1, ("deed", "ticked", "tagged", "there and not seen", "go")), other(1, ("mark", "ticked", "tagged", "there and not seen")),
            other(1, ("deed", "shown", "tagged", "there and not seen", {"mine": True, "open": False})), other(3, STEPS[3][:5]),
            other(1, ("deed", "ticked", "tagged", "there and not seen", {"mine": True, "open": True})), other(4, STEPS[4][:5]),
            other(4, ("deed", "done", "tail", "all", {}, "stops")), other(4, ("deed", "done", "rest", "there", {}, "stops")),
            Keeping(mails(), [STEPS[0], STEPS[2], ("deed", "ticked", "tagged", "there and not seen", {"mine": True, "open": False}), *STEPS[3:]]),
        ]
        for keeping in unlike:
            self.assertFalse(full() == keeping)
            self.assertTrue(keeping != full())

    def test_the_order_of_steps_counts(self):
        steps = [("mark", "shown", "a", "open"), ("mark", "shown", "b", "open")]
        self.assertFalse(Keeping(mails(), steps) == Keeping(mails(), steps[::-1]))

    def test_equal_to_nothing_else(self):
        for thing in [*any_objects(), None, STEPS, mails(), stories(Keeping(mails(), []))[0]]:
            self.assertIs(full() == thing, False)
            self.assertIs(thing == full(), False)


class TestConventions(unittest.TestCase):

    def test_what_is_passed_is_not_changed_and_may_be_changed_later(self):
        steps = [["mark", "shown", "seen", "open or mine"], ["deed", "ticked", "tagged", "seen", {"mine": True}, "stops"]]
        passed = copy.deepcopy(steps)
        keeping = Keeping(mails(), steps)
        changed = keeping.changed("tagged", "all")
        self.assertEqual(steps, passed)
        steps[0][3] = "none"
        steps[1][4]["open"] = True
        steps[1].pop()
        steps.append(("mark", "done", "x", "all"))
        self.assertTrue(keeping == Keeping(mails(), passed))
        self.assertEqual([changed.effect_of("tagged"), changed.stopping()], [{"mine": True}, ["tagged"]])

    def test_what_is_returned_is_new(self):
        keeping = full()
        for call in (keeping.names, keeping.deeds, keeping.words, keeping.stopping):
            before = list(call())
            call().append("x")
            call().clear()
            self.assertEqual(call(), before)
        keeping.effect_of("tagged").clear()
        keeping.effect_of("rest")["open"] = True
        self.assertEqual([keeping.effect_of("tagged"), keeping.effect_of("rest")], [{"mine": True, "open": False}, {}])
        changed = keeping.changed("rest", "none")
        changed.effect_of("tagged")["open"] = True
        self.assertTrue(keeping == full())

    def test_formulas_with_many_signs(self):
        text = " or ".join(["(open and not (mine or not there))"] * 80)
        steps = [("mark", "shown", "a", text), ("deed", "done", "b", "not " * 20 + "a", "go", "stops")]
        self.assertEqual(held(Keeping(mails(), steps), ("open",)), ["a", "b"])


if __name__ == "__main__":
    unittest.main()
