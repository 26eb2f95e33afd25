"""Points 3 and 16 of the document: twins."""

import copy
import itertools
import random
import time
import unittest

from allticked.errors import BadFormula, NoWord, UnlikeWorlds
from allticked.formulas import Formula
from allticked.keepings import Keeping
from allticked.ready import both_times, by_question, these
from allticked.stories import Story, run
from allticked.twins import parting, worse
from allticked.worlds import World
from tests.plain import Drawn, told
from tests.pool import any_objects
from tests.refusing import Refusing

EVENTS = [
    ("close", "open", {"open": False}), ("reopen", "there and not open", {"open": True}),
    ("come", "not there", ["open"]), ("go", "there", "go"),
]
MOMENTS = ["shown", "ticked", "done", "end"]


def mails(spans=None, first="all", moments=("ticked", "done")):
    return World(["open"], moments, EVENTS, spans, first)


def drawn_pairs(seed, many, facts, moments, most_events, most_steps):
    """Return drawn keepings with others over worlds like theirs."""
    rng = random.Random(seed)
    told = []
    for _ in range(many):
        one = Drawn(rng, list(facts), list(moments), most_events, most_steps)
        told.append((one, Drawn(rng, list(facts), list(moments), most_events, most_steps, one)))
    return told


def plain_twins(one, other, most):
    """Return for all twins with at most so many events between two moments how many these are, and the words of both."""
    rows = []
    for state in one.begins():
        for events in one.lists(most):
            rows.append((sum(map(len, events)), one.run(state, events, ())[2], other.run(state, events, ())[2]))
    return rows


class TestTwins(Refusing):

    def check_twins(self, pair, one, other):
        """Check that twins are what the document calls so."""
        self.assertIsInstance(pair, tuple)
        first, second = pair
        self.assertIsInstance(first, Story)
        self.assertEqual([first.keeping is one, second.keeping is other], [True, True])
        self.assertEqual([first.states[0], first.events], [second.states[0], second.events])
        self.assertEqual([first.left_out, second.left_out], [[], []])
        for story, keeping in ((first, one), (second, other)):
            self.assertEqual(told(story), told(run(keeping, story.states[0], story.events)))

    def test_worse(self):
        world = mails()
        one, other = these(world, "ticked", "done", "open", "go"), both_times(world, "ticked", "done", "open", "go")
        pair = worse(one, other, "taken and not open@done")
        self.check_twins(pair, one, other)
        self.assertEqual([pair[0].states, pair[0].events, pair[1].states], [(("open",), ()), [["close"]], (("open",), ())])
        self.assertEqual([pair[0].holds("taken"), pair[1].holds("taken")], [True, False])

    def test_worse_is_not_worse_the_other_way_about(self):
        world = mails()
        one, other = these(world, "ticked", "done", "open", "go"), both_times(world, "ticked", "done", "open", "go")
        self.assertIsNone(worse(other, one, "taken and not open@done"))
        self.assertEqual(worse(other, one, "open@ticked and there@done and not taken")[0].events, [["close"]])

    def test_parting_goes_both_ways(self):
        world = mails()
        one, other = these(world, "ticked", "done", "open", "go"), by_question(world, "done", "open", "go")
        pair = parting(one, other, "taken")
        self.check_twins(pair, one, other)
        self.assertEqual(pair[0].events, [["close"]] if pair[0].holds("taken") else [[pair[0].events[0][0]]])
        self.assertNotEqual(pair[0].holds("taken"), pair[1].holds("taken"))
        narrow = mails(first="not open")
        one, other = these(narrow, "ticked", "done", "open", "go"), by_question(narrow, "done", "open", "go")
        self.assertIsNone(worse(one, other, "taken"))
        self.assertEqual([story.holds("taken") for story in parting(one, other, "taken")], [False, True])
        self.assertEqual([story.holds("taken") for story in parting(other, one, "taken")], [True, False])

    def test_no_twins(self):
        world = mails()
        one, other = these(world, "ticked", "done", "open", "go"), these(world, "ticked", "done", "open and there", "go")
        for text in ("taken", "kept and not taken", "open@done", "all", "none"):
            self.assertIsNone(worse(one, other, text))
            self.assertIsNone(parting(one, other, text))
        self.assertIsNone(worse(one, one, "taken"))
        empty = mails(first="none")
        self.assertIsNone(parting(Keeping(empty, [("mark", "done", "x", "all")]), Keeping(empty, [("mark", "done", "x", "none")]), "x"))

    def test_an_event_that_happens_to_one_alone_behind_unlike_deeds(self):
        world = mails(moments=MOMENTS)
        one = Keeping(world, [("deed", "ticked", "a", "open", {"open": False}), ("mark", "end", "b", "open")])
        other = Keeping(world, [("deed", "ticked", "a", "none", {}), ("mark", "end", "b", "open")])
        pair = worse(one, other, "open@end and open@shown and not open@done")
        self.check_twins(pair, one, other)
        self.assertEqual(pair[0].events, [[], [], ["reopen"]])
        self.assertEqual([story.states for story in pair], [
            (("open",), ("open",), (), ("open",)), (("open",), ("open",), ("open",), ("open",)),
        ])
        pair = worse(other, one, "not open@end and open@done and there@end")
        self.assertEqual([story.states[2:] for story in pair], [(("open",), ()), ((), ())])
        self.assertIsNone(worse(other, one, "not there@end and there@done"))

    def test_one_row_gone_and_the_other_there(self):
        events = [("come", "not there", ["open"]), ("close", "open", {"open": False})]
        world = World(["open"], ["ticked", "done"], events, {}, "open")
        one = Keeping(world, [("deed", "ticked", "taken", "open", "go")])
        other = Keeping(world, [("deed", "ticked", "taken", "none", "go")])
        pair = worse(one, other, "open@done and taken")
        self.check_twins(pair, one, other)
        self.assertEqual(pair[0].events, [["come"]])
        pair = parting(one, other, "there@done and not open@done")
        self.assertEqual([pair[0].events, pair[0].states[1], pair[1].states[1]], [[["close"]], None, ()])
        self.assertIsNone(worse(one, other, "there@done and not there@ticked"))

    def test_none_is_left_out_by_a_stop(self):
        world = mails()
        deed = ("deed", "done", "taken", "open", "go")
        one, other = Keeping(world, [(*deed, "stops")]), Keeping(world, [deed])
        self.assertIsNone(parting(one, other, "taken"))
        self.assertIsNone(worse(one, other, "open@done and not taken"))
        early = Keeping(world, [("deed", "ticked", "taken", "open", "go", "stops")])
        self.check_twins(worse(early, one, "not there@done and open@ticked"), early, one)
        self.assertIsNone(worse(early, one, "open@ticked and not taken and there@done"))

    def test_as_few_events_as_possible(self):
        world = mails({"done": ["close", "go", "come"]}, moments=MOMENTS)
        one, other = these(world, "ticked", "end", "open", "go"), by_question(world, "end", "open", "go")
        for text, many in [
            ("taken", 1), ("taken and open@done", 1), ("taken and there@shown and not open@shown", 2), ("taken and not there@done", 3),
            ("taken and not (there@shown or there@done)", 4),
        ]:
            pair = worse(one, other, text)
            self.assertEqual(sum(map(len, pair[0].events)), many, text)

    def test_as_all_runs_say(self):
        rng = random.Random(3)
        found = {True: 0, False: 0}
        for seed, facts, moments, most in [(1, "a", "mnp", 2), (2, "ab", "mn", 3), (3, "", "mnpq", 1)]:
            for one, other in drawn_pairs(seed, 45, facts, moments, 3, 5):
                words = [word for word in one.keeping.words() if word in other.keeping.words()]
                rows = plain_twins(one, other, most)
                for _ in range(6):
                    text = one.wish(rng, words)
                    self.check_least(one, other, text, rows, most, found)
        self.assertGreater(min(found.values()), 100)

    def check_least(self, one, other, text, rows, most, found):
        """Check worse and parting by all twins there are with at most so many events between two moments."""
        formula = Formula(text)
        truths = [(many, formula.holds(first), formula.holds(second)) for many, first, second in rows]
        for call, wanted in ((worse, [(True, False)]), (parting, [(True, False), (False, True)])):
            expected = [many for many, first, second in truths if (first, second) in wanted]
            pair = call(one.keeping, other.keeping, text)
            found[pair is None] += 1
            if pair is None:
                self.assertEqual(expected, [])
                continue
            self.check_twins(pair, one.keeping, other.keeping)
            self.assertIn((pair[0].holds(text), pair[1].holds(text)), wanted)
            many = sum(map(len, pair[0].events))
            if expected:
                self.assertEqual(many, min(expected))
            else:
                self.assertTrue(any(len(names) > most for names in pair[0].events))

    def test_texts_and_objects(self):
        world = mails()
        one, other = these(world, "ticked", "done", "open", "go"), by_question(world, "done", "open", "go")
        for call in (worse, parting):
            pairs = [call(one, other, harm) for harm in ("taken", Formula("taken"), "taken")]
            self.assertTrue(pairs[0] == pairs[1] == pairs[2])

    def test_equal_worlds_are_enough(self):
        one, other = these(mails(), "ticked", "done", "open", "go"), by_question(mails(), "done", "open", "go")
        self.check_twins(worse(one, other, "taken"), one, other)

    def test_what_is_done_to_told_twins_changes_none_told_later(self):
        world = mails()
        one, other = these(world, "ticked", "done", "open", "go"), by_question(world, "done", "open", "go")
        for call in (worse, parting):
            before = copy.deepcopy([told(story) for story in call(one, other, "taken")])
            for story in call(one, other, "taken"):
                story.events[0].append("x")
                story.events.append([])
                story.left_out.append("y")
            first, second = call(one, other, "taken")
            first.events[0].append("x")
            self.assertEqual(told(second), before[1])
            self.assertEqual([told(story) for story in call(one, other, "taken")], before)


class TestErrors(Refusing):

    def both(self, kind, attributes, *passed):
        for call in (worse, parting):
            self.refused(kind, attributes, call, *passed)

    def test_unlike_worlds(self):
        one = these(mails(), "ticked", "done", "open", "go")
        for world in (mails({"done": []}), mails(first="there"), mails(moments=["ticked", "done", "end"]), World(["open"], ["ticked", "done"], [])):
            other = these(world, "ticked", "done", "open", "go")
            self.both(UnlikeWorlds, [], one, other, "taken")
            self.both(UnlikeWorlds, [], other, one, 5)

    def test_formulas(self):
        one, other = these(mails(), "ticked", "done", "open", "go"), by_question(mails(first="none or all"), "done", "open", "go")
        for thing in [*any_objects(), None, "taken and", ["taken"]]:
            if not isinstance(thing, Formula):
                self.both(BadFormula, [thing], one, other, thing)

    def test_words(self):
        one = Keeping(mails(), [("mark", "ticked", "a", "open"), ("mark", "done", "c", "open")])
        other = Keeping(mails(), [("mark", "ticked", "b", "open"), ("mark", "done", "c", "open")])
        for text, word in [
            ("open", "open"), ("c and b and a", "b"), ("a and c", "a"), ("a and b", "b"), ("a or open@x", "open@x"), ("open@done and there", "there"),
            ("not (c or ticked)", "ticked"),
        ]:
            self.both(NoWord, [word], one, other, text)
            self.both(NoWord, [word], one, other, Formula(text))
        self.both(NoWord, ["b"], other, one, "b and c")
        self.assertIsNone(parting(one, other, "c"))


class TestLimits(unittest.TestCase):

    def largest(self, facts, moments, rng):
        """Return two keepings over a world with many pairs of states, as large as the document has them."""
        events = [("go", "there", "go"), ("come", "all", [])]
        for fact in facts:
            events += [("on" + fact, rng.choice(["all", *facts]), {fact: True}), ("off" + fact, "all", {fact: False})]
        world = World(facts, moments, events[:7])
        return [Keeping(world, self.steps(facts, moments, rng)) for _ in range(2)]

    def steps(self, facts, moments, rng):
        rows, names = [], []
        for at, name in zip(sorted(rng.randrange(len(moments)) for _ in range(6)), ["ma", "mb", "da", "db", "mc", "dc"]):
            words = [*facts, "there", *names]
            text = f"{rng.choice(words)} or not {rng.choice(words)} and {rng.choice(words)} or {rng.choice(words)}"
            more = [] if name[0] == "m" else [rng.choice([{facts[0]: True}, {facts[1]: False}, "go"]), "stops"]
            rows.append(("mark" if name[0] == "m" else "deed", moments[at], name, text, *more))
            names.append(name)
        return rows

    def test_large_keepings_are_quick(self):
        rng = random.Random(1)
        begin = time.perf_counter()
        for facts, moments in itertools.islice(itertools.cycle([(list("xyz"), list("klm")), (list("xy"), list("klmn"))]), 60):
            one, other = self.largest(facts, moments, rng)
            last = moments[-1]
            harm = f"x@k and not y@{moments[1]} or x@{last} and y@{last} or dc and not (da or mb and not x@{moments[1]})"
            for call in (worse, parting):
                call(one, other, harm)
                call(one, other, "none")
        self.assertLess(time.perf_counter() - begin, 10)


if __name__ == "__main__":
    unittest.main()
