"""Points 3 and 20 of the document: views and rules."""

import copy
import itertools
import random
import time
import unittest

from allticked.errors import BadFormula, NoStep, NoWord
from allticked.formulas import Formula
from allticked.keepings import Keeping
from allticked.rules import careful, eager_one, views
from allticked.stories import harmed, stories
from allticked.worlds import World
from tests.plain import largest, now, plain_views, some_deeds
from tests.pool import any_objects
from tests.refusing import Refusing

EVENTS = [
    ("close", "open", {"open": False}), ("reopen", "there and not open", {"open": True}),
    ("come", "not there", ["open"]), ("go", "there", "go"),
]
HERE = ("open",)
STEPS = [
    ("mark", "shown", "seen", "open"), ("deed", "done", "tagged", "seen", {"open": False}, "stops"),
    ("mark", "done", "late", "not open"), ("deed", "done", "taken", "seen", "go"), ("mark", "end", "last", "taken"),
]


def mails(first="all", moments=("shown", "done", "end"), spans=None):
    return World(["open"], moments, EVENTS, spans, first)


def full(first="all", spans=None):
    return Keeping(mails(first, spans=spans), STEPS)


def earlier_words(one, deed):
    """Return the words that a wish may have: of moments up to that of the deed, and names of earlier steps."""
    names = [step[2] for step in one.steps]
    moment = one.steps[names.index(deed)][1]
    begun = one.moments[:one.moments.index(moment) + 1]
    return [f"{fact}@{at}" for at in begun for fact in [*one.facts, "there"]] + names[:names.index(deed)]


class TestViews(Refusing):

    def test_the_four_words(self):
        keeping = full()
        self.assertEqual(views(keeping, "tagged", "seen and open@done", "not seen and there@done"), {
            (None, ()): "free", (None, ("seen",)): "free", ((), ()): "leave", ((), ("seen",)): "free",
            (HERE, ()): "leave", (HERE, ("seen",)): "take",
        })
        self.assertEqual(views(keeping, "tagged", "open@shown", "there@done")[(HERE, ("seen",))], "both")

    def test_a_deed_behind_another_one_of_the_same_moment(self):
        told = views(full(), "taken", "tagged", "open@done and not tagged")
        self.assertEqual(told, {
            (None, ("late",)): "free", (None, ("seen", "late")): "free", ((), ("late",)): "free", ((), ("seen", "late")): "free",
            ((), ("seen", "tagged", "late")): "take", (HERE, ()): "leave", (HERE, ("seen",)): "leave",
        })

    def test_stories_that_bring_one_view(self):
        told = views(full(), "taken", "open@done", "not open@done and there@done")
        self.assertEqual(told[((), ("seen", "tagged", "late"))], "both")
        self.assertEqual([told[((), ("late",))], told[((), ("seen", "late"))]], ["leave", "leave"])
        self.assertEqual([told[(HERE, ())], told[(HERE, ("seen",))]], ["take", "take"])

    def test_a_deed_with_stops(self):
        steps = [("deed", "shown", "a", "all", "go", "stops"), ("deed", "done", "b", "all", "go", "stops")]
        keeping = Keeping(mails("there", spans={"done": []}), steps)
        self.assertEqual(views(keeping, "a", "open@shown", "none"), {((), ()): "free", (HERE, ()): "take"})
        self.assertEqual(views(keeping, "b", "a", "open@shown"), {(None, ("a",)): "both", ((), ()): "free", (HERE, ()): "leave"})

    def test_what_stands_behind_the_deed_says_nothing(self):
        self.assertEqual(views(full(), "tagged", "seen", "none"), views(Keeping(mails(), STEPS[:2]), "tagged", "seen", "none"))
        self.assertEqual(views(full(), "taken", "seen", "late"), views(full().changed("taken", "none"), "taken", "seen", "late"))

    def test_the_order(self):
        world = World(["b", "a"], ["m"], [])
        steps = [("deed", "m", name, "b", {}, "stops") for name in ("z", "x", "y")] + [("deed", "m", "last", "all", "go")]
        told = list(views(Keeping(world, steps), "last", "all", "all"))
        names = [row for many in range(4) for row in itertools.combinations(["z", "x", "y"], many)]
        expected = [(None, ()), ((), ())] + [(("b",), row) for row in names] + [(("a",), ())] + [(("b", "a"), row) for row in names]
        self.assertEqual(told, expected)

    def test_no_rows(self):
        self.assertEqual(views(full("none"), "taken", "all", "all"), {})

    def test_as_all_runs_say(self):
        rng = random.Random(5)
        met = {}
        for one, deed, most in some_deeds():
            words = earlier_words(one, deed)
            for _ in range(2):
                must, never = one.wish(rng, words), one.wish(rng, words)
                told = views(one.keeping, deed, must, never)
                expected = plain_views(one, deed, must, never, most)
                self.assertEqual([told, list(told)], [expected, list(expected)])
                for word in told.values():
                    met[word] = met.get(word, 0) + 1
        self.assertGreater(min(met[word] for word in ("take", "leave", "free", "both")), 100)

    def test_texts_and_objects(self):
        must, never = "seen and open@done", "not seen and there@done"
        self.assertEqual(views(full(), "tagged", must, never), views(full(), "tagged", Formula(must), Formula(never)))

    def test_what_is_told_is_new(self):
        keeping = full()
        before = copy.deepcopy(views(keeping, "taken", "seen", "late"))
        views(keeping, "taken", "seen", "late").clear()
        self.assertEqual(views(keeping, "taken", "seen", "late"), before)


class TestRules(Refusing):

    def check_rules(self, keeping, deed, must, never):
        """Check the two keepings by what their formulas say of each view, and by the document's FACT."""
        told = views(keeping, deed, must, never)
        one, other = careful(keeping, deed, must, never), eager_one(keeping, deed, must, never)
        for ruled, taking in ((one, ["take"]), (other, ["take", "free", "both"])):
            self.assertTrue(ruled == keeping.changed(deed, ruled.formula(deed)))
            self.assertEqual(views(ruled, deed, must, never), told)
            for state, names in told:
                holds = ruled.formula(deed).holds([*now(state), *names])
                self.assertEqual(holds, state is not None and told[(state, names)] in taking)
        return one, other

    def test_what_they_take(self):
        one, other = self.check_rules(full(), "tagged", "seen and open@done", "not seen and there@done")
        self.assertIsNone(harmed(one, "tagged and not (seen and open@done)"))
        self.assertTrue(one.formula("tagged").holds(["open", "there", "seen"]))
        self.assertIsNone(harmed(other, "tagged and not seen"))
        self.assertEqual(harmed(other, "tagged and not open@done").states, (HERE, (), None))

    def test_a_view_with_both(self):
        one, other = self.check_rules(full(), "tagged", "open@shown", "there@done")
        self.assertIsNone(harmed(one, "tagged"))
        self.assertEqual(harmed(other, "tagged").states, (HERE, HERE, None))
        self.assertIsNone(harmed(other, "tagged and not open@shown"))

    def test_a_row_that_is_not_there_is_never_taken(self):
        one, other = self.check_rules(full(), "taken", "not there@done", "none")
        self.assertIsNone(harmed(one, "taken"))
        self.assertIsNone(harmed(other, "taken and not there@done"))
        self.assertIsNone(harmed(other, "there@done and not taken"))

    def test_the_other_steps_stay_as_they_are(self):
        keeping = full()
        for ruled in (careful(keeping, "tagged", "seen", "none"), eager_one(keeping, "tagged", "seen", "none")):
            self.assertEqual([ruled.names(), ruled.stopping(), ruled.effect_of("tagged")], [keeping.names(), ["tagged"], {"open": False}])
            self.assertIs(ruled.world, keeping.world)
            self.assertTrue(all(ruled.formula(name) == keeping.formula(name) for name in keeping.names() if name != "tagged"))

    def test_no_rows(self):
        for call in (careful, eager_one):
            self.assertEqual(stories(call(full("none"), "taken", "all", "all")), [])

    def test_drawn_ones(self):
        rng = random.Random(6)
        for one, deed, most in some_deeds():
            words = earlier_words(one, deed)
            must, never = one.wish(rng, words), one.wish(rng, words)
            first, second = self.check_rules(one.keeping, deed, must, never)
            self.assertIsNone(harmed(first, f"{deed} and ({never})"))
            for story in stories(second):
                if story.holds(must) and deed not in story.left_out:
                    moment = second.moment_of(deed)
                    there = story.holds(f"there@{moment}") and not any(
                        story.holds(name) and second.effect_of(name) == "go" and second.moment_of(name) == moment
                        for name in second.deeds()[:second.deeds().index(deed)]
                    )
                    self.assertEqual(story.holds(deed), there)

    def test_largest_texts_can_be_read(self):
        rng = random.Random(7)
        one, deed = largest(rng)
        words = one.words()[:12] + one.names()[:5]
        for _ in range(20):
            texts = [" or ".join(f"{rng.choice(words)} and not {rng.choice(words)}" for _ in range(4)) for _ in range(2)]
            for call in (careful, eager_one):
                formula = call(one, deed, *texts).formula(deed)
                self.assertTrue(Formula(str(formula)) == formula)


class TestErrors(Refusing):

    def all_of_them(self, kind, attributes, *passed):
        for call in (views, careful, eager_one):
            self.refused(kind, attributes, call, *passed)

    def test_deeds(self):
        for thing in [*any_objects(), None, "seen", "late", "last", "open", "done", ["taken"], ("taken",)]:
            self.all_of_them(NoStep, [thing], full(), thing, 5, 6)

    def test_formulas(self):
        for thing in [*any_objects(), None, "seen and", ["seen"]]:
            if not isinstance(thing, Formula):
                self.all_of_them(BadFormula, [thing], full(), "taken", thing, 6)
                self.all_of_them(BadFormula, [thing], full("none"), "taken", "seen", thing)

    def test_words(self):
        for text, word in [
            ("open", "open"), ("tagged", "tagged"), ("seen or taken", "taken"), ("late", "late"), ("open@end", "open@end"), ("x and there@end", "x"),
            ("seen@done", "seen@done"), ("not (there or x)", "there"),
        ]:
            for formula in (text, Formula(text)):
                self.all_of_them(NoWord, [word], full(), "tagged", formula, 5)
                self.all_of_them(NoWord, [word], full(), "tagged", "seen and open@done", formula)
        for word in ("taken", "last", "there@end"):
            self.all_of_them(NoWord, [word], full(), "taken", f"late or tagged or {word}", 5)
        self.all_of_them(BadFormula, [5], full(), "taken", "late or tagged or open@shown or there@done", 5)


class TestLimits(unittest.TestCase):

    def test_large_keepings_are_quick(self):
        rng = random.Random(1)
        begin = time.perf_counter()
        for _ in range(60):
            keeping, deed = largest(rng)
            must, never = "x@k and not y@l or x@m and da and ma", "db and not (z@k or mb and not x@l) or y@m"
            self.assertGreater(len(views(keeping, deed, must, never)), 20)
            careful(keeping, deed, must, never)
            eager_one(keeping, deed, must, never)
        self.assertLess(time.perf_counter() - begin, 10)


if __name__ == "__main__":
    unittest.main()
