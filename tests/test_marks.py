"""Points 3, 17, 18 and 19 of the document: what must be kept."""

import copy
import itertools
import random
import time
import unittest

from allticked.errors import BadEffect, BadFormula, NameInUse, NoMoment, NotThere, NoWord, Quarrel
from allticked.formulas import Formula
from allticked.keepings import Keeping
from allticked.marks import demands, kept_for, least_marks, quarrel
from allticked.stories import Story, harmed, stories
from allticked.worlds import World
from tests.plain import drawn, told, word_of
from tests.pool import any_keys, any_objects
from tests.refusing import Refusing

EVENTS = [("close", "open", {"open": False}), ("reopen", "there and not open", {"open": True})]
MUST, NEVER = "open@ticked and open@done", "not open@ticked"
HERE = ("open",)


def mails(first="all", moments=("ticked", "done"), events=EVENTS, facts=("open",), spans=None):
    return World(facts, moments, events, spans, first)


def switches(facts, moments=("ticked", "done"), first="there"):
    """Return a world in which each fact can be switched at any time."""
    events = [("on" + fact, "there", {fact: True}) for fact in facts] + [("off" + fact, "there", {fact: False}) for fact in facts]
    return World(facts, moments, events, {}, first)


def told_by(facts, moment, state):
    """Return a text that tells a state."""
    if state is None:
        return f"not there@{moment}"
    return " and ".join([f"there@{moment}", *[f"{'' if fact in state else 'not '}{fact}@{moment}" for fact in facts]])


def pairs_text(facts, pairs):
    """Return a text that holds for just some pairs of states at tick and done."""
    return " or ".join(f"{told_by(facts, 'ticked', one)} and {told_by(facts, 'done', other)}" for one, other in pairs) or "none"


def ring(many):
    """Return a wish for which states at tick stand in a ring, two neighbours each with a state at done of their own."""
    facts = ["a", "b", "c"]
    states = [row for size in range(4) for row in itertools.combinations(facts, size)][:many]
    must = pairs_text(facts, [(states[at], states[at]) for at in range(many)])
    never = pairs_text(facts, [(states[at], states[(at + 1) % many]) for at in range(many)])
    return switches(facts, first=begun_in(facts, states)), must, never


def begun_in(facts, states):
    """Return a text that holds for rows in some states."""
    return " or ".join(told_by(facts, "x", state) for state in states).replace("@x", "")


def plain_pairs(one, tick, done, must, never):
    """Return for the pairs of states, in order, the first stories in which must and never hold."""
    keeping = Keeping(one.keeping.world.until(done), [])
    places = [one.moments.index(tick), one.moments.index(done)]
    pairs = {}
    for story in stories(keeping):
        firsts = pairs.setdefault(tuple(story.states[at] for at in places), [None, None])
        for at, formula in enumerate((must, never)):
            if story.holds(formula) and firsts[at] is None:
                firsts[at] = story
    order = one.states()
    return {pair: pairs[pair] for pair in sorted(pairs, key=lambda pair: [order.index(state) for state in pair])}


def plain_words(pairs):
    return {pair: word_of(pairs[pair][0] is not None, pairs[pair][1] is not None) for pair in pairs}


def plain_lists(words):
    """Return the least lists by trying all numbers of lists there are."""
    states = list(dict.fromkeys(state for state, later in words))
    apart = []
    for one, other in itertools.combinations(range(len(states)), 2):
        for later in {pair[1] for pair in words}:
            if {words.get((states[one], later)), words.get((states[other], later))} == {"take", "leave"}:
                apart.append((one, other))
    best = min(
        ((len(set(numbers)), numbers) for numbers in itertools.product(range(len(states)), repeat=len(states))
         if all(numbers[one] != numbers[other] for one, other in apart)),
    )[1]
    return [[state for state, own in zip(states, best) if own == number] for number in range(max(best, default=-1) + 1)]


def drawn_wishes(seed, many, facts, moments, most_events):
    """Return drawn worlds with two moments and a wish of the stories up to the second one."""
    rng = random.Random(seed)
    rows = []
    for one in drawn(seed, many, facts, moments, most_events, 0):
        tick, done = sorted(rng.sample(one.moments, 2), key=one.moments.index)
        words = Keeping(one.keeping.world.until(done), []).words()
        ends = [word for word in words if word.endswith("@" + done)]
        rows.append((one, tick, done, one.wish(rng, words), one.wish(rng, words)))
        rows.append((one, tick, done, f"there@{done} and ({one.wish(rng, words)})", f"not ({one.wish(rng, words + ends)})"))
        rows.append((one, tick, done, f"{rng.choice(ends)} and {rng.choice(words)}", "none"))
    return rows


class TestDemands(Refusing):

    def test_the_four_words(self):
        world = mails()
        self.assertEqual(demands(world, "ticked", "done", MUST, NEVER), {
            (None, None): "leave", ((), ()): "leave", ((), HERE): "leave", (HERE, ()): "free", (HERE, HERE): "take",
        })
        self.assertEqual(demands(world, "ticked", "done", "open@done", "open@ticked and there@done"), {
            (None, None): "free", ((), ()): "free", ((), HERE): "take", (HERE, ()): "leave", (HERE, HERE): "both",
        })

    def test_both_by_two_stories_and_by_one(self):
        world = mails(moments=["shown", "ticked", "done"])
        words = demands(world, "ticked", "done", "open@shown", "not open@shown and there@shown")
        self.assertEqual(words, {(None, None): "free", **{pair: "both" for pair in itertools.product([(), HERE], repeat=2)}})
        words = demands(world, "shown", "ticked", "open@shown", "open@ticked")
        self.assertEqual(words, {
            (None, None): "free", ((), ()): "free", ((), HERE): "leave", (HERE, ()): "take", (HERE, HERE): "both",
        })

    def test_the_order_of_the_pairs(self):
        world = mails(facts=["a", "b"], events=[("z", "there", "go"), ("y", "not there", ["b", "a"]), ("x", "all", {"b": False}), ("w", "all", {"a": False})])
        states = [None, (), ("a",), ("b",), ("a", "b")]
        self.assertEqual(list(demands(world, "ticked", "done", "all", "none")), list(itertools.product(states, repeat=2)))

    def test_just_pairs_that_some_story_has(self):
        self.assertEqual(list(demands(mails(first="open"), "ticked", "done", "all", "all")), [(HERE, ()), (HERE, HERE)])
        self.assertEqual(list(demands(mails(events=[]), "ticked", "done", "all", "all")), [(None, None), ((), ()), (HERE, HERE)])
        self.assertEqual(demands(mails(first="none"), "ticked", "done", "all", "all"), {})
        self.assertEqual(list(demands(mails(spans={"done": ["close"]}), "ticked", "done", "all", "all")), [(None, None), ((), ()), (HERE, ()), (HERE, HERE)])

    def test_words_of_moments_up_to_done(self):
        world = mails(moments=["shown", "ticked", "later", "done", "end"])
        words = demands(world, "ticked", "done", "open@shown and open@later", "there@shown and not open@later")
        self.assertEqual(set(words.values()), {"free", "both"})
        for text, word in [("open@end", "open@end"), ("open@shown or there@end and x", "there@end"), ("taken", "taken"), ("open", "open")]:
            self.refused(NoWord, [word], demands, world, "ticked", "done", text, 5)
            self.refused(NoWord, [word], demands, world, "ticked", "done", "all", text)

    def test_moments_between_do_not_tell_pairs_apart(self):
        world = mails(moments=["ticked", "later", "done"])
        self.assertEqual(demands(world, "ticked", "done", "open@later", "there@later and not open@later")[(HERE, HERE)], "both")
        self.assertEqual(demands(world, "ticked", "later", "open@later", "there@later and not open@later")[(HERE, HERE)], "take")

    def test_as_the_stories_say(self):
        met = {}
        for seed, facts, moments in [(1, "a", "mnp"), (2, "ab", "mn"), (3, "ba", "mnp"), (4, "", "mnpq"), (5, "cab", "mn")]:
            for one, tick, done, must, never in drawn_wishes(seed, 25, facts, moments, 5):
                words = demands(one.keeping.world, tick, done, must, never)
                expected = plain_words(plain_pairs(one, tick, done, must, never))
                self.assertEqual([words, list(words)], [expected, list(expected)])
                for word in words.values():
                    met[word] = met.get(word, 0) + 1
        self.assertGreater(min(met[word] for word in ("take", "leave", "free", "both")), 200)

    def test_the_documents_example(self):
        world = mails()
        self.assertEqual([demands(world, "ticked", "done", MUST, NEVER)[((), ("open",))], least_marks(world, "ticked", "done", MUST, NEVER)],
                         ["leave", [[None, ()], [("open",)]]])

    def test_texts_and_objects(self):
        world = mails()
        self.assertEqual(demands(world, "ticked", "done", MUST, NEVER), demands(world, "ticked", "done", Formula(MUST), Formula(NEVER)))


class TestQuarrel(unittest.TestCase):

    def test_none(self):
        self.assertIsNone(quarrel(mails(), "ticked", "done", MUST, NEVER))
        self.assertIsNone(quarrel(mails(first="none"), "ticked", "done", "all", "all"))

    def test_the_two_first_stories_of_the_first_pair(self):
        world = mails(moments=["shown", "ticked", "done", "end"])
        one, other = quarrel(world, "ticked", "done", "open@shown", "there@shown and not open@shown")
        self.assertEqual([one.states, one.events], [(HERE, (), ()), [["close"], []]])
        self.assertEqual([other.states, other.events], [((), (), ()), [[], []]])
        self.assertTrue(one.keeping == other.keeping == Keeping(world.until("done"), []))

    def test_one_story_in_which_both_hold(self):
        one, other = quarrel(mails(), "ticked", "done", "open@done", "there@done")
        self.assertEqual([told(one), one.states], [told(other), (HERE, HERE)] if one.states == (HERE, HERE) else [told(other), ((), HERE)])
        self.assertEqual([one.states, other.states], [((), HERE), ((), HERE)])

    def test_as_the_stories_say(self):
        found = {True: 0, False: 0}
        for seed, facts, moments in [(1, "a", "mnp"), (2, "ab", "mn"), (3, "ba", "mnp"), (4, "", "mnpq")]:
            for one, tick, done, must, never in drawn_wishes(seed, 25, facts, moments, 5):
                both = [firsts for firsts in plain_pairs(one, tick, done, must, never).values() if None not in firsts]
                two = quarrel(one.keeping.world, tick, done, must, never)
                found[two is None] += 1
                if two is None:
                    self.assertEqual(both, [])
                else:
                    self.assertIsInstance(two, tuple)
                    self.assertTrue(list(two) == both[0])
                    self.assertTrue(two[0].holds(must) and two[1].holds(never))
        self.assertGreater(min(found.values()), 60)


class TestLeastMarks(Refusing):

    def test_rings(self):
        for many, lists in [(3, [[0], [1], [2]]), (5, [[0, 2], [1, 3], [4]]), (7, [[0, 2, 4], [1, 3, 5], [6]])]:
            world, must, never = ring(many)
            states = world.begins()
            self.assertEqual(len(states), many)
            self.assertEqual(least_marks(world, "ticked", "done", must, never), [[states[at] for at in row] for row in lists])
            for size in (4, 6):
                world, must, never = ring(size)
                self.assertEqual(least_marks(world, "ticked", "done", must, never), [world.begins()[0::2], world.begins()[1::2]])

    def test_a_state_in_no_list_with_another(self):
        world = switches(["a", "b"])
        states = world.begins()
        must = pairs_text(["a", "b"], [(states[2], state) for state in states])
        never = pairs_text(["a", "b"], [(one, one) for one in states if one != states[2]])
        self.assertEqual(least_marks(world, "ticked", "done", must, never), [[(), ("a",), ("a", "b")], [("b",)]])

    def test_the_least_numbers(self):
        world = switches(["a", "b"])
        none, a, b, ab = world.begins()
        must = pairs_text(["a", "b"], [(none, none), (b, ab)])
        never = pairs_text(["a", "b"], [(ab, none), (a, ab)])
        self.assertEqual(least_marks(world, "ticked", "done", must, never), [[none, a], [b, ab]])

    def test_few_lists_stand_ahead_of_least_numbers(self):
        facts = ["a", "b", "c"]
        world = switches(facts)
        states = world.begins()
        for hub, lists in [([], [[0, 3], [1, 2]]), ([4], [[0, 3], [1, 2], [4]])]:
            apart = [(0, 2), (2, 3), (3, 1)] + [(at, other) for at in hub for other in range(4)]
            must = pairs_text(facts, [(states[one], states[at]) for at, (one, other) in enumerate(apart)])
            never = pairs_text(facts, [(states[other], states[at]) for at, (one, other) in enumerate(apart)])
            told_lists = least_marks(world, "ticked", "done", must, never)
            self.assertEqual([row[:len(own)] for row, own in zip(told_lists, lists)], [[states[at] for at in own] for own in lists])
            self.assertEqual(len(told_lists), len(lists))

    def test_few_lists_where_one_state_is_apart_from_all(self):
        facts = ["a", "b", "c"]
        world = switches(facts, first="not c and there or c and not (a or b)")
        states = world.begins()
        self.assertEqual(len(states), 5)
        apart = [(0, at) for at in range(1, 5)] + [(1, 3), (3, 4), (4, 2)]
        ends = [row for size in range(4) for row in itertools.combinations(facts, size)]
        must = pairs_text(facts, [(states[one], ends[at]) for at, (one, other) in enumerate(apart)])
        never = pairs_text(facts, [(states[other], ends[at]) for at, (one, other) in enumerate(apart)])
        self.assertEqual(least_marks(world, "ticked", "done", must, never), [[states[0]], [states[1], states[4]], [states[2], states[3]]])

    def test_no_wish_needs_one_list(self):
        self.assertEqual(least_marks(mails(), "ticked", "done", "none", "none"), [[None, (), HERE]])
        self.assertEqual(least_marks(mails(), "ticked", "done", "all", "none"), [[None, (), HERE]])

    def test_states_at_tick_that_no_story_has(self):
        self.assertEqual(least_marks(mails(first="open"), "ticked", "done", MUST, NEVER), [[HERE]])
        self.assertEqual(least_marks(mails(first="there"), "ticked", "done", MUST, NEVER), [[()], [HERE]])
        self.assertEqual(least_marks(mails(first="none"), "ticked", "done", MUST, NEVER), [])

    def test_states_at_done_in_which_the_row_is_not_there(self):
        world = mails(events=[*EVENTS, ("go", "there", "go")])
        self.assertEqual(least_marks(world, "ticked", "done", "open@ticked and not there@done", "there@ticked and not open@ticked and not there@done"),
                         [[None, ()], [HERE]])

    def test_quarrels_are_refused(self):
        world = mails(moments=["shown", "ticked", "done"])
        must, never = "open@shown", "there@shown and not open@shown"
        one, other = quarrel(world, "ticked", "done", must, never)
        self.refused(Quarrel, [one, other], least_marks, world, "ticked", "done", must, never)

    def test_as_all_choices_of_lists_say(self):
        sizes = {}
        for seed, facts, moments in [(1, "a", "mnp"), (2, "ab", "mn"), (3, "ba", "mnp")]:
            for one, tick, done, must, never in drawn_wishes(seed, 40, facts, moments, 5):
                words = plain_words(plain_pairs(one, tick, done, must, never))
                if "both" not in words.values():
                    lists = least_marks(one.keeping.world, tick, done, must, never)
                    self.assertEqual(lists, plain_lists(words))
                    sizes[len(lists)] = sizes.get(len(lists), 0) + 1
        self.assertGreater(min(sizes[1], sizes[2]), 1)

    def test_as_all_choices_of_lists_say_of_many_unlike_pairs(self):
        rng = random.Random(8)
        facts = ["a", "b", "c"]
        sizes = {}
        for _ in range(60):
            states = rng.sample([row for size in range(4) for row in itertools.combinations(facts, size)], 6)
            world = switches(facts, first=begun_in(facts, states))
            pairs = list(itertools.product(world.begins(), world.all_states()[1:]))
            must = rng.sample(pairs, rng.randint(3, 14))
            never = [pair for pair in rng.sample(pairs, rng.randint(3, 20)) if pair not in must]
            texts = pairs_text(facts, must), pairs_text(facts, never)
            lists = least_marks(world, "ticked", "done", *texts)
            words = {pair: word_of(pair in must, pair in never) for pair in pairs}
            self.assertEqual(demands(world, "ticked", "done", *texts), words)
            self.assertEqual(lists, plain_lists(words))
            sizes[len(lists)] = sizes.get(len(lists), 0) + 1
        self.assertGreater(len(sizes), 2)


class TestKeptFor(Refusing):

    def check_taken(self, world, tick, done, must, never, eager):
        """Check that rows are taken just as the document says, by the lists of least_marks."""
        words = demands(world, tick, done, must, never)
        lists = least_marks(world, tick, done, must, never)
        keeping = kept_for(world, tick, done, must, never, {}, eager=eager)
        self.assertTrue(keeping.world == world)
        self.assertEqual([keeping.deeds(), keeping.stopping(), keeping.moment_of("taken"), keeping.effect_of("taken")], [["taken"], [], done, {}])
        self.assertEqual({keeping.moment_of(name) for name in keeping.names()[:-1]} - {tick}, set())
        at, later = world.moments.index(tick), world.moments.index(done)
        marks = {}
        for story in stories(keeping):
            own = [states for states in lists if story.states[at] in states][0]
            said = [words.get((state, story.states[later])) for state in own]
            taken = story.states[later] is not None and ("leave" not in said if eager else "take" in said)
            self.assertEqual(story.holds("taken"), taken)
            marks.setdefault(tuple(name for name in keeping.names()[:-1] if story.holds(name)), {})[lists.index(own)] = True
            self.assertFalse(story.holds(f"not taken and ({must}) or taken and ({never})"))
        self.assertEqual([len(numbers) for numbers in marks.values()], [1] * len(lists))

    def test_the_documents_wish(self):
        for eager in (False, True):
            self.check_taken(mails(), "ticked", "done", MUST, NEVER, eager)
        careful, eager = kept_for(mails(), "ticked", "done", MUST, NEVER, "go"), kept_for(mails(), "ticked", "done", MUST, NEVER, "go", eager=True)
        self.assertIsNone(harmed(careful, "taken and not open@done"))
        self.assertEqual(harmed(eager, "taken and not open@done").events, [["close"]])
        for keeping in (careful, eager):
            self.assertIsNone(harmed(keeping, f"not taken and {MUST} or taken and {NEVER}"))

    def test_a_list_takes_what_another_state_of_it_has_to(self):
        world = switches(["a"])
        must, never = "a@ticked and a@done", "none"
        keeping = kept_for(world, "ticked", "done", must, never, "go")
        self.assertEqual(least_marks(world, "ticked", "done", must, never), [[(), ("a",)]])
        self.assertEqual(harmed(keeping, "taken and not a@ticked").events, [["ona"]])
        self.assertIsNone(harmed(keeping, "taken and not a@done"))
        self.assertIsNone(harmed(kept_for(world, "ticked", "done", must, never, "go", eager=True), "not taken"))

    def test_rings(self):
        for many in (3, 5, 7):
            for eager in (False, True):
                self.check_taken(ring(many)[0], "ticked", "done", *ring(many)[1:], eager)

    def test_as_demands_and_lists_say(self):
        checked = 0
        for seed, facts, moments in [(1, "a", "mnp"), (2, "ab", "mn"), (3, "ba", "mnp"), (6, "", "mnpq")]:
            for one, tick, done, must, never in drawn_wishes(seed, 40, facts, moments, 5):
                world = one.keeping.world
                pairs = plain_pairs(one, tick, done, must, never)
                gone = [story for story in stories(Keeping(world.until(done), [])) if story.holds(f"({must}) and not there@{done}")]
                both = [firsts for firsts in pairs.values() if None not in firsts]
                if gone:
                    self.refused(NotThere, [gone[0]], kept_for, world, tick, done, must, never, "go")
                elif both:
                    self.refused(Quarrel, both[0], kept_for, world, tick, done, must, never, "go", eager=True)
                else:
                    checked += 1
                    for eager in (False, True):
                        self.check_taken(world, tick, done, must, never, eager)
        self.assertGreater(checked, 100)

    def test_nobody_and_nothing_wished(self):
        for world in (mails(first="none"), mails(first="not there", events=[])):
            for eager in (False, True):
                self.assertIsNone(harmed(kept_for(world, "ticked", "done", "none", "none", "go", eager=eager), "taken"))
        self.assertIsNone(harmed(kept_for(mails(), "ticked", "done", "none", "none", "go"), "taken"))
        self.assertIsNone(harmed(kept_for(mails(), "ticked", "done", "none", "none", "go", eager=True), "there@done and not taken"))

    def test_effects_and_later_moments(self):
        world = mails(moments=["shown", "ticked", "done", "end"])
        effect = {"open": False}
        keeping = kept_for(world, "shown", "done", "open@shown and there@done", "not open@shown", effect)
        effect["open"] = True
        self.assertEqual(keeping.effect_of("taken"), {"open": False})
        self.assertIs(keeping.world, world)
        self.assertEqual(harmed(keeping, "taken and open@done and not open@end").events, [[], [], []])

    def test_names_that_are_in_use(self):
        facts = ["aa", "ab", "ac"]
        world = switches(facts, ["ad", "ticked", "ae", "done", "af"])
        states = world.begins()
        must = pairs_text(facts, [(one, one) for one in states[:5]])
        never = pairs_text(facts, [(one, other) for one, other in itertools.product(states[:5], repeat=2) if one != other])
        keeping = kept_for(world, "ticked", "done", must, never, "go")
        self.assertEqual(len(least_marks(world, "ticked", "done", must, never)), 5)
        self.assertIsNone(harmed(keeping, f"not taken and ({must}) or taken and ({never})"))

    def test_eager_is_given_by_keyword_alone(self):
        with self.assertRaises(TypeError):
            kept_for(mails(), "ticked", "done", MUST, NEVER, "go", True)

    def test_taken_is_in_use(self):
        events = [("go", "there", "go")]
        for facts, moments in ((["taken"], ["ticked", "done"]), ([], ["taken", "ticked", "done"]), ([], ["ticked", "done", "taken"])):
            world = World(facts, moments, events)
            self.refused(NameInUse, ["taken"], kept_for, world, "ticked", "done", "there@done", "none", 5)
            self.refused(NameInUse, ["taken"], kept_for, world, "ticked", "done", "all", "all", "go")
        self.refused(NameInUse, ["taken"], kept_for, World([], ["ticked", "taken"], events), "ticked", "taken", "none", "none", "go")

    def test_effects_are_refused(self):
        for thing in [*any_objects(), None, "gone", ["open"], {"shut": True}, {"open": 1}, {"open": None}, ["go"], ("go",)]:
            if thing != {} and thing != {"open": True}:
                self.refused(BadEffect, [thing], kept_for, mails(), "ticked", "done", "all", "all", thing)

    def test_rows_that_are_not_there(self):
        world = mails(events=[*EVENTS, ("go", "there", "go")])
        first = [story for story in stories(Keeping(world, [])) if story.holds("open@ticked and not there@done")][0]
        self.refused(NotThere, [first], kept_for, world, "ticked", "done", "open@ticked", "none", "go")
        self.refused(NotThere, [first], kept_for, world, "ticked", "done", "open@ticked", "open@ticked", "go", eager=True)
        story = stories(Keeping(world, []))[0]
        self.refused(NotThere, [story], kept_for, world, "ticked", "done", "all", "all", "go")

    def test_quarrels(self):
        world = mails()
        one, other = quarrel(world, "ticked", "done", "open@done", "there@done")
        self.refused(Quarrel, [one, other], kept_for, world, "ticked", "done", "open@done", "there@done", "go")


class TestErrors(Refusing):

    def all_of_them(self, kind, attributes, *passed):
        for call in (demands, quarrel, least_marks):
            self.refused(kind, attributes, call, *passed)
        self.refused(kind, attributes, kept_for, *passed, 5)

    def test_moments(self):
        world = mails(moments=["shown", "ticked", "done"])
        for thing in [*any_objects(), *any_keys(), "open", "close", ["ticked"], ("ticked",)]:
            self.all_of_them(NoMoment, [thing], world, thing, 5, 6, 7)
            self.all_of_them(NoMoment, [thing], world, "ticked", thing, 6, 7)
        for tick, done in [("ticked", "ticked"), ("ticked", "shown"), ("done", "done"), ("done", "shown")]:
            self.all_of_them(NoMoment, [done], world, tick, done, 6, 7)

    def test_formulas(self):
        for thing in [*any_objects(), None, "open@", "open@done and", ["open@done"]]:
            if not isinstance(thing, Formula):
                self.all_of_them(BadFormula, [thing], mails(), "ticked", "done", thing, 7)
                self.all_of_them(BadFormula, [thing], mails(first="none"), "ticked", "done", "all", thing)

    def test_words(self):
        world = mails(moments=["ticked", "done", "end"])
        for text, word in [
            ("open", "open"), ("open@done and there", "there"), ("open@end or x", "open@end"), ("x or open@end", "x"), ("close@done", "close@done"),
            ("open@later", "open@later"), ("not (ticked or done)", "ticked"), ("taken", "taken"),
        ]:
            for formula in (text, Formula(text)):
                self.all_of_them(NoWord, [word], world, "ticked", "done", formula, 5)
                self.all_of_them(NoWord, [word], world, "ticked", "done", "open@done", formula)

    def test_in_their_order(self):
        world = World(["taken"], ["ticked", "done"], [("go", "all", "go")])
        self.refused(NoMoment, [1], kept_for, world, 1, 2, 3, 4, 5)
        self.refused(NoMoment, [2], kept_for, world, "ticked", 2, 3, 4, 5)
        self.refused(BadFormula, [3], kept_for, world, "ticked", "done", 3, 4, 5)
        self.refused(NoWord, ["x"], kept_for, world, "ticked", "done", "x", 4, 5)
        self.refused(BadFormula, [4], kept_for, world, "ticked", "done", "all", 4, 5)
        self.refused(NameInUse, ["taken"], kept_for, world, "ticked", "done", "all", "all", 5)
        self.refused(BadEffect, [5], kept_for, mails(), "ticked", "done", "all", "all", 5)
        self.refused(NotThere, [stories(Keeping(mails(), []))[0]], kept_for, mails(), "ticked", "done", "all", "all", "go")


class TestConventions(unittest.TestCase):

    def test_what_is_told_is_new(self):
        world = mails()
        for call in (demands, least_marks):
            before = copy.deepcopy(call(world, "ticked", "done", MUST, NEVER))
            rows = call(world, "ticked", "done", MUST, NEVER)
            for row in rows:
                if isinstance(row, list):
                    row.append("x")
            rows.clear()
            self.assertEqual(call(world, "ticked", "done", MUST, NEVER), before)

    def test_what_is_done_to_told_stories_changes_none_told_later(self):
        world = mails(moments=["shown", "ticked", "done"])
        wish = "open@shown", "there@shown and not open@shown"
        before = [copy.deepcopy(told(story)) for story in quarrel(world, "ticked", "done", *wish)]
        for story in quarrel(world, "ticked", "done", *wish):
            self.assertIsInstance(story, Story)
            story.events[0].append("x")
            story.left_out.append("y")
        self.assertEqual([told(story) for story in quarrel(world, "ticked", "done", *wish)], before)

    def test_the_same_call_tells_the_same(self):
        world, must, never = ring(5)
        for _ in range(3):
            self.assertTrue(kept_for(world, "ticked", "done", must, never, "go") == kept_for(world, "ticked", "done", Formula(must), Formula(never), "go"))


class TestLimits(unittest.TestCase):

    def test_nine_states_in_many_unlike_pairs_are_quick(self):
        rng = random.Random(2)
        facts = ["a", "b", "c"]
        world = World(facts, ["ticked", "done"], [
            ("go", "there", "go"), ("come", "all", []), ("ona", "all", {"a": True}), ("offa", "all", {"a": False}),
            ("onb", "all", {"b": True}), ("onc", "all", {"c": True}), ("offc", "all", {"b": False, "c": False}),
        ])
        pairs = list(itertools.product(world.all_states(), world.all_states()[1:]))
        sizes = {}
        begin = time.perf_counter()
        for at in range(100):
            rng.shuffle(pairs)
            cut, end = rng.randint(5, 32), rng.randint(33, 72)
            texts = pairs_text(facts, pairs[:cut]), pairs_text(facts, pairs[cut:end])
            lists = least_marks(world, "ticked", "done", *texts)
            sizes[len(lists)] = sizes.get(len(lists), 0) + 1
            kept_for(world, "ticked", "done", *texts, "go", eager=at % 2 == 0)
        self.assertLess(time.perf_counter() - begin, 10)
        self.assertGreater(max(sizes), 4)

    def test_four_moments_are_quick(self):
        world = switches(["a", "b"], ["shown", "ticked", "later", "done"])
        must = "a@shown and b@ticked and not a@later or b@done and there@shown"
        begin = time.perf_counter()
        for _ in range(100):
            demands(world, "ticked", "done", must, "not b@done")
            quarrel(world, "ticked", "done", must, "not b@done")
        self.assertLess(time.perf_counter() - begin, 6)


if __name__ == "__main__":
    unittest.main()
