"""Points 3 and 11 of the document: ready keepings."""

import copy
import itertools
import unittest

from allticked.errors import BadCount, BadEffect, BadFormula, NameInUse, NoMoment, NoWord, UnlikeDeeds, UnlikeWorlds
from allticked.formulas import Formula
from allticked.keepings import Keeping
from allticked.ready import all_but, both_times, by_question, joined, of_then, these
from allticked.stories import stories
from allticked.worlds import World
from tests.pool import any_keys, any_objects
from tests.refusing import Refusing

EVENTS = [("close", "open", {"open": False}), ("reopen", "there", {"open": True}), ("come", "all", ["open"]), ("go", "there", "go")]


def mails(*more):
    return World(["open", "mine", *more], ["shown", "ticked", "done"], EVENTS)


def five(world, tick="shown", done="done", wanted="open", effect="go", out="mine"):
    """Return calls of the five functions, each without arguments."""
    return {
        "these": lambda: these(world, tick, done, wanted, effect),
        "by_question": lambda: by_question(world, done, wanted, effect),
        "all_but": lambda: all_but(world, tick, done, wanted, out, effect),
        "of_then": lambda: of_then(world, tick, done, wanted, effect),
        "both_times": lambda: both_times(world, tick, done, wanted, effect),
    }


class TestReady(Refusing):

    def test_steps(self):
        world, wanted, deed = mails(), "open or mine", ("deed", "done", "taken")
        told = {name: call() for name, call in five(world, "ticked", "done", wanted, {"mine": False}, "not mine").items()}
        steps = {
            "these": [("mark", "ticked", "kept", wanted), (*deed, "kept", {"mine": False})],
            "by_question": [(*deed, wanted, {"mine": False})],
            "all_but": [("mark", "ticked", "out", "not mine"), (*deed, f"({wanted}) and not out", {"mine": False})],
            "of_then": [("mark", "ticked", "then", "there"), (*deed, f"({wanted}) and then", {"mine": False})],
            "both_times": [("mark", "ticked", "kept", wanted), (*deed, f"({wanted}) and kept", {"mine": False})],
        }
        for name, keeping in told.items():
            self.assertTrue(keeping == Keeping(world, steps[name]), name)
            self.assertIs(keeping.world, world)
            self.assertEqual(keeping.stopping(), [])

    def test_texts_of_the_formulas(self):
        told = {name: call() for name, call in five(mails()).items()}
        self.assertEqual({name: str(keeping.formula("taken")) for name, keeping in told.items()}, {
            "these": "kept", "by_question": "open", "all_but": "open and not out", "of_then": "open and then", "both_times": "open and kept",
        })
        self.assertEqual([keeping.names() for keeping in told.values()], [
            ["kept", "taken"], ["taken"], ["out", "taken"], ["then", "taken"], ["kept", "taken"],
        ])

    def test_formulas_may_be_objects(self):
        texts = five(mails(), wanted="open and there", out="mine or open")
        objects = five(mails(), wanted=Formula("open and there"), out=Formula("mine or open"))
        for name, call in texts.items():
            self.assertTrue(call() == objects[name]())

    def test_by_question_at_the_first_moment(self):
        keeping = by_question(World(["open"], ["done"], []), "done", "open", "go")
        self.assertEqual([keeping.moment_of("taken"), [story.words() for story in stories(keeping)]], [
            "done", [[], ["there@done"], ["open@done", "there@done", "taken"]],
        ])

    def test_what_is_passed_may_be_changed_later(self):
        effect = {"open": True}
        told = [call() for call in five(mails(), effect=effect).values()]
        self.assertEqual(effect, {"open": True})
        effect["mine"] = True
        self.assertEqual([keeping.effect_of("taken") for keeping in told], [{"open": True}] * 5)


class TestReadyErrors(Refusing):

    def test_moments(self):
        world = mails()
        for moment in [*any_objects(), None, "open", "later", ["shown"], ("shown",)]:
            for name, call in five(world, tick=moment, done="never", wanted=5, effect=5, out=5).items():
                self.refused(NoMoment, ["never" if name == "by_question" else moment], call)
            for call in five(world, done=moment, wanted=5, effect=5, out=5).values():
                self.refused(NoMoment, [moment], call)

    def test_done_not_behind_tick(self):
        for tick, done in [("shown", "shown"), ("ticked", "ticked"), ("ticked", "shown"), ("done", "done"), ("done", "ticked")]:
            for name, call in five(mails(), tick, done, wanted=5, out=5).items():
                if name == "by_question":
                    self.refused(BadFormula, [5], call)
                else:
                    self.refused(NoMoment, [done], call)
        for tick, done in [("shown", "ticked"), ("ticked", "done"), ("shown", "done")]:
            for call in five(mails(), tick, done).values():
                self.assertEqual(call().moment_of("taken"), done)

    def test_formulas(self):
        for thing in [*any_objects(), None, "open and", "", ["open"]]:
            if not isinstance(thing, Formula):
                for call in five(mails("taken", "kept", "out", "then"), wanted=thing, effect=5, out=6).values():
                    self.refused(BadFormula, [thing], call)
                self.refused(BadFormula, [thing], five(mails("taken"), effect=5, out=thing)["all_but"])

    def test_words(self):
        for text, word in [("open and kept", "kept"), ("taken or x", "taken"), ("open@shown", "open@shown"), ("then", "then"), ("out", "out"),
                           ("there and mine or ticked", "ticked"), ("close", "close")]:
            for wanted in (text, Formula(text)):
                for call in five(mails(), wanted=wanted, effect=5, out="y").values():
                    self.refused(NoWord, [word], call)
                self.refused(NoWord, [word], five(mails(), effect=5, out=wanted)["all_but"])

    def test_wanted_ahead_of_out(self):
        self.refused(NoWord, ["x"], five(mails(), wanted="x", out=5)["all_but"])
        self.refused(BadFormula, [5], five(mails(), out=5, effect=6)["all_but"])

    def test_effects(self):
        things = [thing for thing in any_objects() if thing not in ({}, {"open": True})]
        for thing in [*things, None, "gone", [], (), ["open"], ("open",), ["go"], {"open": 1}, {"shut": True}, {"there": True}, {"open": None}]:
            for call in five(mails("taken", "kept", "out", "then"), effect=thing).values():
                self.refused(BadEffect, [thing], call)
        for key in any_keys():
            for call in five(mails(), effect={"open": True, key: False}).values():
                self.refused(BadEffect, [{"open": True, key: False}], call)

    def test_names_in_use(self):
        marks = {"these": "kept", "all_but": "out", "of_then": "then", "both_times": "kept"}
        for name, mark in marks.items():
            self.refused(NameInUse, [mark], five(mails("taken", mark))[name])
            self.refused(NameInUse, [mark], five(mails(mark))[name])
            self.refused(NameInUse, [mark], five(World(["open", "mine"], ["shown", "done", mark], []))[name])
        for call in five(mails("taken")).values():
            self.refused(NameInUse, ["taken"], call)
        for call in five(World(["open", "mine"], ["taken", "done"], []), tick="taken").values():
            self.refused(NameInUse, ["taken"], call)
        for call in five(World(["open", "mine"], ["shown", "done"], [(name, "all", "go") for name in ("kept", "taken", "then", "out")])).values():
            self.assertEqual(call().deeds(), ["taken"])

    def test_a_name_in_use_that_the_keeping_has_not(self):
        world = mails("kept", "out", "then")
        self.assertEqual(five(world)["by_question"]().names(), ["taken"])
        self.assertEqual(five(mails("kept"))["all_but"]().names(), ["out", "taken"])


def marked(*names, deed="taken", moment="done", effect="go", more=(), formula=None, world=None):
    """Return a keeping with a mark of each name, at the moments in turn, and one deed that looks at them."""
    moments = sorted(itertools.islice(itertools.cycle(["shown", "ticked"]), len(names)))
    marks = [("mark", when, name, "open") for when, name in zip(moments, names)]
    rule = " and ".join(["open", *names]) if formula is None else formula
    return Keeping(mails() if world is None else world, [*marks, ("deed", moment, deed, rule, effect), *more])


class TestJoined(Refusing):

    def test_words(self):
        one, other = both_times(mails(), "shown", "done", "open", "go"), all_but(mails(), "ticked", "done", "mine or open", "mine", "go")
        marks = [("mark", "shown", "kept", "open"), ("mark", "ticked", "out", "mine")]
        first, second = "open and kept", "(mine or open) and not out"
        formulas = {"and": f"({first}) and {second}", "or": f"{first} or {second}", "but": f"({first}) and not ({second})"}
        for word, formula in formulas.items():
            keeping = joined(one, other, word)
            self.assertTrue(keeping == Keeping(mails(), [*marks, ("deed", "done", "taken", formula, "go")]), word)
            self.assertIs(keeping.world, one.world)
        self.assertEqual(str(joined(one, other, "but").formula("taken")), "open and kept and not ((mine or open) and not out)")
        self.assertEqual(str(joined(one, other, "and").formula("taken")), "open and kept and (mine or open) and not out")
        self.assertEqual(str(joined(one, other, "or").formula("taken")), "open and kept or (mine or open) and not out")

    def test_what_it_takes(self):
        one, other = by_question(mails(), "done", "open", "go"), by_question(mails(), "done", "mine", "go")
        told = {}
        for word in ("and", "or", "but"):
            told[word] = sorted({story.states[2] for story in stories(joined(one, other, word)) if story.holds("taken")})
        self.assertEqual(told, {"and": [("open", "mine")], "or": [("mine",), ("open",), ("open", "mine")], "but": [("open",)]})

    def test_the_order_of_marks(self):
        keeping = joined(marked("a", "b", "c", "d"), marked("e", "f", "g"), "or")
        self.assertEqual(keeping.names(), ["a", "b", "e", "f", "c", "d", "g", "taken"])
        self.assertEqual([keeping.moment_of(name) for name in "abefcdg"], ["shown"] * 4 + ["ticked"] * 3)

    def test_marks_behind_the_deeds_are_left_out(self):
        one = marked("a", more=[("mark", "done", "x", "taken")])
        other = marked("b", deed="struck", more=[("mark", "done", "y", "struck"), ("mark", "done", "z", "y or b")])
        keeping = joined(one, other, "and")
        self.assertEqual(keeping.names(), ["a", "b", "taken"])
        self.assertTrue(keeping.formula("taken") == Formula("open and a and b"))
        self.assertEqual(joined(other, one, "and").names(), ["b", "a", "struck"])

    def test_marks_at_the_moment_of_the_deeds(self):
        one = Keeping(mails(), [("mark", "ticked", "a", "all"), ("mark", "done", "b", "a"), ("deed", "done", "x", "b", {})])
        steps = [("mark", "done", "c", "all"), ("mark", "done", "d", "c"), ("deed", "done", "y", "d", {})]
        self.assertEqual(joined(one, Keeping(mails(), steps), "or").names(), ["a", "b", "c", "d", "x"])
        self.assertEqual(joined(Keeping(mails(), steps), one, "or").names(), ["a", "c", "d", "b", "y"])
        self.assertEqual(joined(one, Keeping(mails(), [*steps, ("mark", "done", "b", "y")]), "or").names(), ["a", "b", "c", "d", "x"])

    def test_effects_and_stops_of_the_joined(self):
        keeping = joined(marked(effect={"open": True, "mine": False}), marked(effect={"mine": False, "open": True}), "or")
        self.assertEqual([keeping.effect_of("taken"), keeping.stopping()], [{"open": True, "mine": False}, []])

    def test_joined_again(self):
        world = mails()
        keeping = joined(joined(marked("a"), marked("b"), "or"), by_question(world, "done", "mine", "go"), "but")
        self.assertTrue(keeping.formula("taken") == Formula("(open and a or open and b) and not mine"))


class TestJoinedErrors(Refusing):

    def test_unlike_worlds(self):
        others = [World(["open", "mine"], ["shown", "ticked", "done"], EVENTS[:3]), World(["mine", "open"], ["shown", "ticked", "done"], EVENTS)]
        for world in others:
            other = Keeping(world, [])
            self.refused(UnlikeWorlds, [], joined, marked(), other, "and")
            self.refused(UnlikeWorlds, [], joined, other, marked(), "or")

    def test_worlds_that_are_written_otherwise(self):
        like = World(["open", "mine"], ["shown", "ticked", "done"], [("close", "open and there", {"open": False}), *EVENTS[1:]])
        keeping = joined(marked("a"), marked("b", world=like), "and")
        self.assertTrue(keeping.world == mails())

    def test_counts_of_deeds(self):
        none, two, three = [
            Keeping(mails(), [("deed", "done", name, "all", "go") for name in names]) for names in ("", "ab", "abc")
        ]
        self.refused(BadCount, [0], joined, none, two, "and")
        self.refused(BadCount, [2], joined, two, three, "or")
        self.refused(BadCount, [3], joined, three, none, "but")
        self.refused(BadCount, [3], joined, marked(), three, "but")
        self.refused(BadCount, [0], joined, marked(), none, "but")
        self.refused(BadCount, [2], joined, two, marked(), "but")

    def test_unlike_deeds(self):
        stop = Keeping(mails(), [("deed", "done", "taken", "all", "go", "stops")])
        pairs = [
            (marked(), marked(moment="ticked")), (marked(), marked(effect={})), (marked(effect={}), marked(effect={"open": True})),
            (marked(effect={"open": False}), marked(effect={"open": True})), (marked(), stop), (stop, stop),
            (marked("a"), marked("a", moment="ticked")),
        ]
        for one, other in pairs:
            self.refused(UnlikeDeeds, [], joined, one, other, "and")
            self.refused(UnlikeDeeds, [], joined, other, one, "but")

    def test_names_in_use(self):
        self.refused(NameInUse, ["a"], joined, marked("a"), marked("a"), "and")
        self.refused(NameInUse, ["b"], joined, marked("a", "b", "c"), marked("d", "b", "a"), "or")
        self.refused(NameInUse, ["taken"], joined, marked("a"), marked("taken", deed="struck"), "or")
        self.refused(NameInUse, ["x"], joined, marked("a", more=[("mark", "done", "x", "all")]), marked("b", "x"), "but")

    def test_names_that_are_free(self):
        one = marked("a", deed="taken")
        self.assertEqual(joined(one, marked("b", deed="a", more=[("mark", "done", "taken", "all")]), "or").names(), ["a", "b", "taken"])
        self.assertEqual(joined(marked("struck"), marked("b", deed="struck"), "or").names(), ["struck", "b", "taken"])

    def test_in_their_order(self):
        world = World(["open", "mine"], ["shown", "ticked", "done"], [])
        self.refused(UnlikeWorlds, [], joined, Keeping(world, []), marked(moment="ticked"), "and")
        self.refused(BadCount, [0], joined, marked("a", moment="ticked"), Keeping(mails(), [("mark", "shown", "a", "all")]), "and")

    def test_nothing_is_changed(self):
        one, other = marked("a"), marked("b", effect="go")
        before = copy.deepcopy([one, other])
        joined(one, other, "and").effect_of("taken")
        self.assertTrue(one == before[0] and other == before[1])


if __name__ == "__main__":
    unittest.main()
