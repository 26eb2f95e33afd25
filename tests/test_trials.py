"""Points 3, 27 and 28 of the document: trials."""

import copy
import itertools
import random
import time
import unittest

from allticked.errors import BadFormula, BadTruth, Contradiction, NoStep, NoView, NoWord
from allticked.formulas import Formula
from allticked.keepings import Keeping
from allticked.rules import views
from allticked.stories import run
from allticked.trials import Trials
from allticked.worlds import World
from tests.plain import drawn, largest, now, plain_views, some_deeds
from tests.pool import any_objects
from tests.refusing import Refusing

EVENTS = [
    ("close", "open", {"open": False}), ("reopen", "there and not open", {"open": True}), ("new", "all", ["open"]), ("drop", "there", "go"),
]
HERE = ("open",)
STEPS = [
    ("mark", "shown", "seen", "open"), ("deed", "done", "tagged", "seen", {"open": False}, "stops"),
    ("mark", "done", "late", "not open"), ("deed", "done", "taken", "seen", "go"), ("mark", "end", "last", "taken"),
]


def kept():
    world = World(["open"], ["ticked", "done"], EVENTS)
    return Keeping(world, [("mark", "ticked", "seen", "open"), ("deed", "done", "taken", "open", "go")])


def full(first="all", spans=None):
    return Keeping(World(["open"], ["shown", "done", "end"], EVENTS, spans, first), STEPS)


def shapes(view):
    """Return a view as it may be told, too: with lists for its tuples."""
    state, names = view
    parts = [[state] if state is None else [state, list(state)], [names, list(names)]]
    return [kind(parts) for parts in itertools.product(*parts) for kind in (tuple, list)]


class TestViews(Refusing):

    def test_the_documents_example(self):
        trials = Trials(kept(), "taken")
        self.assertIsNone(trials.saw((("open",), ()), False))
        self.assertIsNone(trials.saw((("open",), ("seen",)), True))
        self.assertEqual([trials.unseen(), trials.fitting(["open", "seen", "open and seen"]), trials.parting("seen", "open and seen")],
                         [[(None, ()), (None, ("seen",)), ((), ()), ((), ("seen",))], ["seen", "open and seen"], ((), ("seen",))])

    def test_the_views_are_those_of_rules(self):
        for keeping in (full(), full("there"), full("none"), full(spans={"done": []})):
            for deed in ("tagged", "taken"):
                self.assertEqual(Trials(keeping, deed).views(), list(views(keeping, deed, "all", "none")))

    def test_the_formula_of_the_deed_and_what_is_behind_mean_nothing(self):
        for other in (full().changed("taken", "none"), Keeping(full().world, STEPS[:4]), Keeping(full().world, [*STEPS[:3], ("deed", "done", "taken", "not there", {})])):
            one, two = Trials(full(), "taken"), Trials(other, "taken")
            self.assertEqual(one.views(), two.views())
            self.assertEqual([one.row(view) for view in one.views()], [two.row(view) for view in two.views()])

    def test_rows(self):
        trials = Trials(full(), "tagged")
        self.assertIn(trials.row((HERE, ())), [(None, [["new"]], []), ((), [["reopen"]], [])])
        self.assertEqual({view: trials.row(view) for view in trials.views() if view != (HERE, ())}, {
            (None, ()): (None, [[]], []), (None, ("seen",)): (HERE, [["drop"]], []), ((), ()): ((), [[]], []),
            ((), ("seen",)): (HERE, [["close"]], []), (HERE, ("seen",)): (HERE, [[]], []),
        })

    def test_rows_that_are_left_out(self):
        trials = Trials(full(), "taken")
        self.assertEqual(trials.row((HERE, ("seen",))), (HERE, [[]], ["tagged"]))
        self.assertEqual(trials.row(((), ("seen", "tagged", "late")))[1:], ([[]], []))
        self.assertEqual(trials.row(((), ("seen", "late"))), (HERE, [["close"]], ["tagged"]))

    def test_a_deed_at_the_first_moment(self):
        keeping = Keeping(World(["open"], ["m", "n"], EVENTS), [("deed", "m", "x", "all", "go")])
        trials = Trials(keeping, "x")
        self.assertEqual([trials.row(view) for view in trials.views()], [(None, [], []), ((), [], []), (HERE, [], [])])

    def test_as_all_runs_say(self):
        for one, deed, most in some_deeds():
            trials = Trials(one.keeping, deed)
            self.assertEqual(trials.views(), list(plain_views(one, deed, "all", "all", most)))
            least = {}
            for state in one.begins():
                for events in one.lists(most):
                    for left in one.left_lists():
                        view = one.brings(deed, state, events, left)[0]
                        least[view] = min(least.get(view, 99), sum(map(len, self.until(one, deed, events))))
            for view in trials.views():
                state, events, left = trials.row(view)
                self.assertEqual(len(events), len(self.until(one, deed, events)))
                later = [[] for _ in one.moments[len(events) + 1:]]
                self.assertEqual(one.brings(deed, state, events + later, left)[:2], (view, left))
                self.assertEqual(sum(map(len, events)), least[view])
                self.assertEqual(run(one.keeping, state, events + later, left).events[:len(events)], events)

    def until(self, one, deed, events):
        """Return the lists of events up to the moment of a deed."""
        moment = [step[1] for step in one.steps if step[2] == deed][0]
        return events[:one.moments.index(moment)]

    def test_lists_for_tuples(self):
        for view in Trials(full(), "taken").views():
            for shape in shapes(view):
                trials = Trials(full(), "taken")
                self.assertEqual(trials.row(shape), trials.row(view))
                trials.saw(shape, True)
                self.assertEqual([trials.told(view), trials.told(shape)], [True, True])
                self.assertNotIn(view, trials.unseen())
                self.refused(Contradiction, [shape], trials.saw, shape, False)


class TestSeen(Refusing):

    def test_saw_and_told(self):
        trials = Trials(kept(), "taken")
        view, other = (HERE, ("seen",)), (HERE, ())
        self.assertEqual([trials.told(view), trials.unseen()], [None, trials.views()])
        self.assertIsNone(trials.saw(view, True))
        self.assertIsNone(trials.saw(view, True))
        self.assertIsNone(trials.saw(other, False))
        self.assertIsNone(trials.saw(other, False))
        self.assertEqual([trials.told(view), trials.told(other), trials.told((None, ()))], [True, False, None])
        self.assertEqual(trials.unseen(), [one for one in trials.views() if one not in (view, other)])

    def test_the_same_view_told_otherwise(self):
        trials = Trials(kept(), "taken")
        view = (HERE, ("seen",))
        trials.saw(view, True)
        self.refused(Contradiction, [view], trials.saw, view, False)
        self.assertEqual([trials.told(view), trials.fitting(["seen", "none"])], [True, ["seen"]])
        trials.saw((None, ()), False)
        self.refused(Contradiction, [[None, []]], trials.saw, [None, []], True)
        self.assertIs(trials.told((None, ())), False)

    def test_errors_change_nothing(self):
        trials = Trials(kept(), "taken")
        self.refused(NoView, [5], trials.saw, 5, True)
        self.refused(BadTruth, [1], trials.saw, (HERE, ()), 1)
        self.assertEqual(trials.unseen(), trials.views())
        trials.saw((HERE, ()), False)
        self.refused(BadTruth, [0], trials.saw, (HERE, ()), 0)
        self.assertIs(trials.told((HERE, ())), False)

    def test_two_trials_know_nothing_of_each_other(self):
        keeping = kept()
        one, other = Trials(keeping, "taken"), Trials(keeping, "taken")
        one.saw((HERE, ()), True)
        self.assertIsNone(other.told((HERE, ())))


class TestRules(Refusing):

    def test_fits(self):
        trials = Trials(kept(), "taken")
        self.assertTrue(all(trials.fits(text) for text in ("all", "none", "open", Formula("seen"))))
        trials.saw((HERE, ("seen",)), True)
        self.assertEqual([trials.fits(text) for text in ("all", "none", "open", "seen", "not open")], [True, False, True, True, False])
        trials.saw((HERE, ()), False)
        self.assertEqual([trials.fits(text) for text in ("all", "open", Formula("seen"), "open and seen")], [False, False, True, True])
        self.assertIs(trials.fits("seen"), True)
        self.assertIs(trials.fits("open"), False)

    def test_a_row_that_is_not_there(self):
        trials = Trials(kept(), "taken")
        trials.saw((None, ("seen",)), False)
        self.assertEqual(trials.fitting(["all", "seen", "not there"]), ["all", "seen", "not there"])
        trials.saw((None, ()), True)
        self.assertEqual(trials.fitting(["all", "seen", "not there", "none"]), [])

    def test_fitting(self):
        trials = Trials(kept(), "taken")
        trials.saw((HERE, ()), True)
        formulas = ["open", "seen", Formula("there"), "not seen", "open", Formula("none")]
        found = trials.fitting(formulas)
        self.assertEqual(len(found), 4)
        self.assertTrue(all(one is formulas[at] for one, at in zip(found, (0, 2, 3, 4))))
        self.assertTrue(trials.fitting(tuple(formulas)) == found)
        self.assertEqual(trials.fitting([]), [])

    def test_parting(self):
        trials = Trials(kept(), "taken")
        self.assertEqual(trials.parting("open", "seen"), ((), ("seen",)))
        self.assertEqual(trials.parting("open", "all"), ((), ()))
        self.assertIsNone(trials.parting("open", "open and there"))
        self.assertIsNone(trials.parting("not there", "none"))
        for view in trials.views():
            trials.saw(view, view[0] == HERE)
        self.assertIsNone(trials.parting("open", "seen"))
        self.assertEqual(trials.unseen(), [])

    def test_parting_asks_unseen_views_alone(self):
        trials = Trials(kept(), "taken")
        trials.saw(((), ("seen",)), True)
        self.assertEqual(trials.parting("open", Formula("seen")), (HERE, ()))
        trials.saw((HERE, ()), True)
        self.assertIsNone(trials.parting(Formula("open"), "seen"))

    def test_drawn_ones(self):
        rng = random.Random(2)
        parted = {True: 0, False: 0}
        for one in drawn(3, 60, "ab", "mn", 4, 5):
            for step in [step for step in one.steps if step[0] == "deed"]:
                words = [*one.facts, "there", *[other[2] for other in one.steps[:one.steps.index(step)]]]
                trials = Trials(one.keeping, step[2])
                rules = [one.wish(rng, words) for _ in range(6)]
                seen = {view: view[0] is not None and Formula(rules[0]).holds([*now(view[0]), *view[1]])
                        for view in trials.views() if rng.random() < 0.4}
                for view in seen:
                    trials.saw(view, seen[view])
                fitting = [rule for rule in rules if all(self.strikes(rule, view) == seen[view] for view in seen)]
                self.assertEqual(trials.fitting(rules), fitting)
                self.assertEqual([trials.fits(rule) for rule in rules], [rule in fitting for rule in rules])
                for first, second in itertools.combinations(rules, 2):
                    views_apart = [view for view in trials.unseen() if self.strikes(first, view) != self.strikes(second, view)]
                    self.assertEqual(trials.parting(first, second), views_apart[0] if views_apart else None)
                    parted[bool(views_apart)] += 1
        self.assertGreater(min(parted.values()), 50)

    def strikes(self, rule, view):
        return view[0] is not None and Formula(rule).holds([*now(view[0]), *view[1]])


class TestErrors(Refusing):

    def test_deeds(self):
        for thing in [*any_objects(), None, "seen", "late", "open", "done", ["taken"], ("taken",)]:
            self.refused(NoStep, [thing], Trials, full(), thing)

    def test_views(self):
        trials = Trials(full(), "tagged")
        wrong = [
            *any_objects(), None, (HERE, ("tagged",)), (HERE, ("late",)), (HERE,), (HERE, (), ()), ("open", ()), (HERE, "seen"), (HERE, None),
            ((), ["seen", "seen"]), [["shut"], []], (("open", "open"), ()), {"a": 1, "b": 2}, "ab", [[[]], []], ((HERE, ()), ()),
        ]
        for thing in wrong:
            self.refused(NoView, [thing], trials.row, thing)
            self.refused(NoView, [thing], trials.told, thing)
            self.refused(NoView, [thing], trials.saw, thing, 5)
        for thing in any_objects():
            self.refused(NoView, [(thing, ())] if thing != [] else [5], trials.told, (thing, ()) if thing != [] else 5)
            self.refused(NoView, [(HERE, [thing])], trials.told, (HERE, [thing]))
        self.assertEqual(Trials(full("none"), "tagged").views(), [])
        self.refused(NoView, [(HERE, ())], Trials(full("none"), "tagged").row, (HERE, ()))

    def test_truths(self):
        trials = Trials(full(), "tagged")
        trials.saw((HERE, ()), True)
        for thing in [*any_objects(), None]:
            if not isinstance(thing, bool):
                self.refused(BadTruth, [thing], trials.saw, (HERE, ()), thing)
                self.refused(BadTruth, [thing], trials.saw, (None, ()), thing)

    def test_formulas(self):
        trials = Trials(full(), "tagged")
        for thing in [*any_objects(), None, "seen and", ["seen"]]:
            if not isinstance(thing, Formula):
                self.refused(BadFormula, [thing], trials.fits, thing)
                self.refused(BadFormula, [thing], trials.fitting, ["seen", thing, 5])
                self.refused(BadFormula, [thing], trials.parting, thing, 5)
                self.refused(BadFormula, [thing], trials.parting, "seen", thing)

    def test_words(self):
        trials = Trials(full(), "tagged")
        for text, word in [("seen and tagged", "tagged"), ("late", "late"), ("open@done", "open@done"), ("x or y", "x"), ("not (open or shown)", "shown")]:
            for formula in (text, Formula(text)):
                self.refused(NoWord, [word], trials.fits, formula)
                self.refused(NoWord, [word], trials.fitting, ["seen", formula, 5])
                self.refused(NoWord, [word], trials.parting, formula, 5)
                self.refused(NoWord, [word], trials.parting, "open or there", formula)
        self.assertTrue(Trials(full(), "taken").fits("seen and tagged and late or open or there"))


class TestConventions(unittest.TestCase):

    def test_what_is_told_is_new(self):
        trials = Trials(full(), "taken")
        before = copy.deepcopy((trials.views(), [trials.row(view) for view in trials.views()]))
        trials.views().clear()
        trials.unseen().clear()
        for view in trials.views():
            state, events, left = trials.row(view)
            for names in events:
                names.append("x")
            events.append([])
            left.append("y")
        self.assertEqual((trials.views(), [trials.row(view) for view in trials.views()]), before)
        self.assertEqual(trials.unseen(), trials.views())

    def test_what_is_passed_stays_as_it_is(self):
        trials = Trials(full(), "taken")
        view, formulas = [["open"], ["seen"]], ["seen", "open"]
        trials.saw(view, True)
        self.assertEqual([trials.fitting(formulas), view, formulas], [["seen", "open"], [["open"], ["seen"]], ["seen", "open"]])
        view[0].clear()
        self.assertIs(trials.told((HERE, ("seen",))), True)


class TestLimits(unittest.TestCase):

    def test_large_keepings_are_quick(self):
        rng = random.Random(1)
        begin = time.perf_counter()
        for _ in range(40):
            keeping, deed = largest(rng)
            trials = Trials(keeping, deed)
            rules = ["x and not y or da", "mb or db and z", "there", "mc and not (ma or y)"] * 5
            for view in trials.views():
                trials.row(view)
                if rng.random() < 0.5:
                    trials.saw(view, view[0] is not None and rng.random() < 0.9)
            trials.fitting(rules)
            for one, other in itertools.combinations(rules[:4], 2):
                trials.parting(one, other)
        self.assertLess(time.perf_counter() - begin, 10)


if __name__ == "__main__":
    unittest.main()
