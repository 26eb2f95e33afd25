"""Points 3, 21 and 22 of the document: counts."""

import random
import unittest

from allticked.counts import Count
from allticked.errors import BadFormula, BadNumber, NoWord
from allticked.formulas import Formula
from allticked.keepings import Keeping
from allticked.stories import run, stories
from allticked.worlds import World
from tests.plain import drawn
from tests.pool import any_keys, any_objects
from tests.refusing import Refusing

EVENTS = [("close", "open", {"open": False}), ("new", "all", ["open"]), ("drop", "there", "go")]


def kept():
    world = World(["open"], ["ticked", "done"], EVENTS)
    return Keeping(world, [("mark", "ticked", "seen", "open"), ("deed", "done", "taken", "open", "go")])


class TestCount(Refusing):

    def test_terms(self):
        terms = {"kept and not taken": 1, "taken": -3, "a@b or not (c or d)": 10 ** 30, "none": 0}
        told = Count(terms).terms()
        self.assertEqual([(str(formula), number) for formula, number in told], list(terms.items()))
        self.assertTrue(all(isinstance(pair, tuple) and isinstance(pair[0], Formula) for pair in told))
        self.assertEqual(Count({}).terms(), [])

    def test_the_order_of_the_terms_is_that_of_the_dict(self):
        words = ["b", "a", "d", "c"]
        self.assertEqual([str(formula) for formula, number in Count(dict.fromkeys(words, 1)).terms()], words)

    def test_of(self):
        keeping = kept()
        here, closed = run(keeping, ("open",), [[]]), run(keeping, ("open",), [["close"]])
        count = Count({"seen": 1, "taken": -1})
        self.assertEqual([count.of(here), count.of(closed), count.of(run(keeping, None, [["new"]]))], [0, 1, -1])
        self.assertEqual(Count({"all": 5, "seen": 2, "none": 100, "open@done and taken": -1}).of(here), 6)
        self.assertEqual(Count({"seen": 2, "(seen)": 3, "seen and seen": 10 ** 40}).of(here), 5 + 10 ** 40)
        self.assertEqual([Count({}).of(here), Count({"seen": 0}).of(here)], [0, 0])

    def test_total(self):
        keeping = kept()
        here, closed, new = run(keeping, ("open",), [[]]), run(keeping, ("open",), [["close"]]), run(keeping, None, [["new"]])
        count = Count({"seen": 1, "taken": -1})
        self.assertEqual(count.total([(here, 4), (closed, 7), (new, 2)]), 5)
        self.assertEqual(count.total([[here, 4], [closed, 7], [new, 2]]), 5)
        self.assertEqual(count.total(((closed, 10 ** 30), [new, 10 ** 30])), 0)
        self.assertEqual([count.total([]), count.total(()), Count({}).total([(here, 3)])], [0, 0, 0])

    def test_as_the_words_of_stories_say(self):
        rng = random.Random(1)
        for one in drawn(2, 30, "ab", "mn", 4, 5):
            words = one.keeping.words()
            terms = {one.wish(rng, words): rng.randint(-3, 3) for _ in range(3)}
            parts = [(story, rng.randint(1, 9)) for story in stories(one.keeping)]
            total = 0
            for story, many in parts:
                number = sum(own for text, own in terms.items() if Formula(text).holds(story.words()))
                self.assertEqual(Count(terms).of(story), number)
                total += many * number
            self.assertEqual(Count(terms).total(parts), total)


class TestErrors(Refusing):

    def test_formulas(self):
        for thing in [*any_keys(), "seen and", "(seen", " seen", "Seen", Keeping, BadFormula(1)]:
            self.refused(BadFormula, [thing], Count, {thing: 1})
            self.refused(BadFormula, [thing], Count, {"seen": 1, "a@b": "x", thing: True, "and": 3})

    def test_numbers(self):
        for thing in [*any_objects(), None, "1", 1.5, (1,), [1]]:
            if not isinstance(thing, int) or isinstance(thing, bool):
                self.refused(BadNumber, [thing], Count, {"seen": thing})
                self.refused(BadNumber, [thing], Count, {"seen": 3, "taken": thing, "a": None})
        for number in (0, -1, 3, -10 ** 50):
            self.assertEqual(Count({"seen": number}).terms()[0][1], number)

    def test_formulas_come_ahead_of_numbers(self):
        self.refused(BadFormula, ["or"], Count, {"seen": None, "or": None})

    def test_words(self):
        story = run(kept(), ("open",), [[]])
        for terms, word in [
            ({"open": 1}, "open"), ({"seen": 1, "x and y": 0, "z": 1}, "x"), ({"none and (seen or open@later)": 0}, "open@later"),
            ({"seen": 1, "taken or there": 1}, "there"), ({"ticked": 1, "a": 1}, "ticked"),
        ]:
            self.refused(NoWord, [word], Count(terms).of, story)
            self.refused(NoWord, [word], Count(terms).total, [(story, 1)])


class TestConventions(unittest.TestCase):

    def test_later_changes_have_no_effect(self):
        terms = {"seen": 1, "taken": -1}
        count = Count(terms)
        terms["seen"] = 5
        terms["or"] = None
        del terms["taken"]
        self.assertEqual([(str(formula), number) for formula, number in count.terms()], [("seen", 1), ("taken", -1)])

    def test_what_is_told_is_new(self):
        count = Count({"seen": 1})
        count.terms().append(5)
        count.terms().clear()
        self.assertEqual(len(count.terms()), 1)
        self.assertEqual(count.of(run(kept(), ("open",), [[]])), 1)

    def test_what_is_passed_stays_as_it_is(self):
        terms = {"seen": 1, "taken": -1}
        story = run(kept(), ("open",), [[]])
        parts = [[story, 2]]
        self.assertEqual(Count(terms).total(parts), 0)
        self.assertEqual([terms, len(parts), parts[0][1]], [{"seen": 1, "taken": -1}, 1, 2])


if __name__ == "__main__":
    unittest.main()
