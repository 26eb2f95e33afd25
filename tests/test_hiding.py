"""Points 3 and 23 to 26 of the document: hidden harm."""

import copy
import itertools
import random
import time
import unittest

from allticked.counts import Count
from allticked.errors import BadFormula, BadSlack, NoWord
from allticked.formulas import Formula
from allticked.hiding import guards, hidden, is_weights, most, unsettled, weights
from allticked.keepings import Keeping
from allticked.ready import both_times
from allticked.stories import stories
from allticked.worlds import World
from tests.plain import drawn, told
from tests.plain_sums import fewest_rows, have_weights, is_unsettled, least_guards, most_harmed
from tests.pool import any_objects
from tests.refusing import Refusing

EVENTS = [
    ("close", "open", {"open": False}), ("reopen", "there and not open", {"open": True}), ("new", "all", ["open"]), ("drop", "there", "go"),
]
HARM = "taken and not seen"


def mails(first="all", events=EVENTS):
    return World(["open"], ["ticked", "done"], events, {}, first)


def kept(first="all", events=EVENTS):
    return Keeping(mails(first, events), [("mark", "ticked", "seen", "open"), ("deed", "done", "taken", "open", "go")])


def two_counts():
    return [Count({"seen": 1, "taken": -1}), Count({"seen and not taken": 1})]


def states_alone(facts):
    """Return a keeping without steps or events, whose stories are its states."""
    return Keeping(World(facts, ["m"], [], {}, "there"), [])


def state_counts(facts, rows):
    """Return counts that give the states of states_alone these numbers."""
    states = [row for size in range(len(facts) + 1) for row in itertools.combinations(facts, size)]
    texts = [" and ".join(["there@m", *[f"{'' if fact in state else 'not '}{fact}@m" for fact in facts]]) for state in states]
    return texts, [Count(dict(zip(texts, numbers))) for numbers in zip(*rows)]


def numbers_of(keeping, counts, story):
    """Return the numbers of a story, worked out from the texts."""
    words = story.words()
    return tuple(sum(number for formula, number in count.terms() if formula.holds(words)) for count in counts)


def harmed_rows(keeping, harm, counts):
    """Return for the numbers that stories have whether one of these is harmed."""
    rows = {}
    for story in stories(keeping):
        numbers = numbers_of(keeping, counts, story)
        rows[numbers] = rows.get(numbers, False) or story.holds(harm)
    return rows


def drawn_asked(seed, many, facts="a", moments="mn", steps=4):
    """Return drawn keepings, each with a harm and with counts whose numbers are small."""
    rng = random.Random(seed)
    for one in drawn(seed, many, facts, moments, 4, steps):
        words = one.keeping.words()
        counts = []
        for _ in range(rng.choice([0, 1, 1, 2, 2, 3])):
            first, second = one.wish(rng, words), one.wish(rng, words)
            count = rng.choice([{f"{first}": 1, f"{second}": -1}, {f"({first}) and not ({second})": 1, f"({second}) and not ({first})": -1}, {first: 1}])
            counts.append(Count(count))
        yield one, one.wish(rng, words), counts


def skewed_asked(seed, many):
    """Return keepings whose stories are states, a harm and counts with drawn numbers, often such that there are weights."""
    rng = random.Random(seed)
    facts = ["a", "b", "c"]
    for _ in range(many):
        size, largest = rng.choice([(1, 1), (1, 2), (2, 1), (2, 2), (3, 1)])
        lean = [rng.randint(-2, 2) for _ in range(size)]
        rows = []
        while len(rows) < 8:
            row = tuple(rng.randint(-largest, largest) for _ in range(size))
            if rng.random() < 0.1 or sum(number * weight for number, weight in zip(row, lean)) >= 0:
                rows.append(row)
        texts, counts = state_counts(facts, rows)
        leaning = [text for text, row in zip(texts, rows) if sum(number * weight for number, weight in zip(row, lean)) > 0]
        bad = [text for text in (leaning if rng.random() < 0.8 else texts) if rng.random() < 0.5]
        yield states_alone(facts), " or ".join(bad) or "none", counts


class Asking(Refusing):

    def check_parts(self, keeping, parts):
        """Check that parts are what the document calls so."""
        all_told = [told(story) for story in stories(keeping)]
        self.assertIsInstance(parts, list)
        places = []
        for part in parts:
            self.assertIsInstance(part, tuple)
            story, many = part
            self.assertIs(type(many), int)
            self.assertGreaterEqual(many, 1)
            places.append(all_told.index(told(story)))
            self.assertIs(story.keeping, keeping)
        self.assertEqual(places, sorted(set(places)))

    def check_agreeing(self, keeping, counts, parts, slack=None):
        self.check_parts(keeping, parts)
        for at, count in enumerate(counts):
            self.assertLessEqual(abs(count.total(parts)), 0 if slack is None else slack[at])

    def rows_harmed(self, parts, harm):
        return sum(many for story, many in parts if story.holds(harm))


class TestHidden(Asking):

    def test_the_documents_example(self):
        counts = two_counts()
        parts = hidden(kept(), HARM, counts[:1])
        self.assertEqual(sum([many for story, many in parts]), 2)
        self.assertIsNone(hidden(kept(), HARM, counts))
        self.assertEqual([weights(kept(), HARM, counts) is None, is_weights(kept(), HARM, counts, [-1, 1])], [False, True])
        self.assertEqual([guards(kept(), HARM, counts), most(kept(), HARM, counts, [1, 2])[0]], [[[0, 1]], 3])

    def test_the_rows_of_a_least_list(self):
        keeping = kept()
        parts = hidden(keeping, HARM, two_counts()[:1])
        self.check_agreeing(keeping, two_counts()[:1], parts)
        self.assertEqual([(story.holds("taken"), story.holds("seen"), many) for story, many in parts], [(True, False, 1), (False, True, 1)])

    def test_no_counts(self):
        keeping = kept()
        parts = hidden(keeping, HARM, [])
        self.check_parts(keeping, parts)
        self.assertEqual([(story.holds(HARM), many) for story, many in parts], [(True, 1)])
        self.assertEqual(weights(keeping, HARM, ()), None)
        self.assertEqual([hidden(keeping, "none", []), weights(keeping, "none", [])], [None, []])

    def test_a_count_of_no_terms(self):
        keeping = kept()
        self.assertEqual(sum(many for story, many in hidden(keeping, HARM, [Count({}), Count({})])), 1)
        self.assertIsNone(weights(keeping, HARM, [Count({})]))
        self.assertIsNone(hidden(keeping, HARM, [Count({}), *two_counts()]))
        self.assertTrue(is_weights(keeping, HARM, [Count({}), *two_counts()], [77, -1, 1]))

    def test_the_same_count_twice(self):
        keeping = kept()
        one, other = two_counts()
        self.assertEqual(sum(many for story, many in hidden(keeping, HARM, [one, one])), 2)
        self.assertIsNone(hidden(keeping, HARM, [other, one, other]))
        found = weights(keeping, HARM, [one, other, one])
        self.assertTrue(is_weights(keeping, HARM, [one, other, one], found))
        self.assertEqual(guards(keeping, HARM, [one, other, one, other]), [[0, 1], [0, 3], [1, 2], [2, 3]])

    def test_a_harm_that_no_row_has(self):
        keeping = kept()
        for harm in ("none", "taken and not open@done", "not open@done and taken and seen"):
            for counts in ([], two_counts(), two_counts()[:1], [Count({})]):
                self.assertIsNone(hidden(keeping, harm, counts))
                self.assertTrue(is_weights(keeping, harm, counts, weights(keeping, harm, counts)))
                self.assertEqual(guards(keeping, harm, counts), [[]])
                number, parts = most(keeping, harm, counts, [3] * len(counts))
                self.assertEqual([number, self.rows_harmed(parts, harm)], [0, 0])

    def test_a_harm_that_only_many_rows_together_hide(self):
        texts, counts = state_counts(["a", "b"], [(2, 1), (-1, 0), (0, -2), (0, 0)])
        keeping = states_alone(["a", "b"])
        parts = hidden(keeping, texts[0], counts)
        self.check_agreeing(keeping, counts, parts)
        self.assertEqual([many for story, many in parts], [2, 4, 1])
        texts, counts = state_counts(["a", "b"], [(3, 0), (-5, 4), (0, -7), (1, 1)])
        parts = hidden(keeping, texts[0], counts)
        self.check_agreeing(keeping, counts, parts)
        self.assertEqual(sum(many for story, many in parts), fewest_rows(harmed_rows(keeping, texts[0], counts), 2))

    def test_no_stories(self):
        keeping = kept("none")
        self.assertEqual([hidden(keeping, "all", two_counts()), weights(keeping, "all", two_counts()), guards(keeping, "all", two_counts())], [None, [0, 0], [[]]])
        self.assertEqual([hidden(keeping, "all", []), most(keeping, "all", [], []), unsettled(keeping, [], Count({"all": 1}))], [None, (0, []), None])

    def test_as_walks_through_sums_say(self):
        found = {True: 0, False: 0}
        asked = [(one.keeping, harm, counts) for one, harm, counts in itertools.chain(drawn_asked(1, 150), drawn_asked(2, 40, "ab", "mn"))]
        for keeping, harm, counts in itertools.chain(asked, skewed_asked(3, 150)):
            rows = harmed_rows(keeping, harm, counts)
            least = fewest_rows(rows, len(counts))
            parts = hidden(keeping, harm, counts)
            found[parts is None] += 1
            self.assertEqual(parts is None, least is None)
            if parts is not None:
                self.check_agreeing(keeping, counts, parts)
                self.assertEqual(sum(many for story, many in parts), least)
                self.assertGreater(self.rows_harmed(parts, harm), 0)
        self.assertGreater(min(found.values()), 80)


class TestWeights(Asking):

    def test_they_are_integers(self):
        found = weights(kept(), HARM, two_counts())
        self.assertEqual([type(found), [type(one) for one in found]], [list, [int, int]])
        self.assertTrue(is_weights(kept(), HARM, two_counts(), found))
        self.assertIsNone(weights(kept(), HARM, two_counts()[:1]))

    def test_is_weights_of_any_object(self):
        for thing in [*any_objects(), None, [1, 1], [-1], [-1, 1, 0], [True, 1], [-1, True], ["-1", 1], {-1: 1, 1: 1}, [[-1], [1]], [-1, 1.0], "ab"]:
            self.assertIs(is_weights(kept(), HARM, two_counts(), thing), False)
        for thing in ([-1, 1], (-1, 1), [-5, 7], [-10 ** 40, 10 ** 40]):
            self.assertIs(is_weights(kept(), HARM, two_counts(), thing), True)
        for thing in ([0, 0], [0, 1], [-1, 0], [1, -1], [-2, 1]):
            self.assertIs(is_weights(kept(), HARM, two_counts(), thing), False)

    def test_is_weights_where_nothing_is_harmed(self):
        self.assertIs(is_weights(kept(), "none", two_counts(), [0, 0]), True)
        self.assertIs(is_weights(kept(), "none", two_counts(), [1, 0]), False)
        self.assertEqual([is_weights(kept(), "none", [], thing) for thing in ([], (), {}, "", None, [0])], [True, True, False, False, False, False])
        self.assertEqual([is_weights(kept(), "all", [], []), is_weights(kept("none"), "all", [], [])], [False, True])

    def test_just_one_of_hidden_and_weights_is_none(self):
        found = {True: 0, False: 0}
        asked = [(one.keeping, harm, counts) for one, harm, counts in itertools.chain(drawn_asked(4, 150), drawn_asked(5, 40, "ab", "mn"))]
        for keeping, harm, counts in itertools.chain(asked, skewed_asked(6, 200)):
            told_weights = weights(keeping, harm, counts)
            found[told_weights is None] += 1
            self.assertEqual(told_weights is None, hidden(keeping, harm, counts) is not None)
            rows = harmed_rows(keeping, harm, counts)
            self.assertEqual(told_weights is not None, have_weights(rows, len(counts), 6))
            if told_weights is not None:
                self.assertTrue(is_weights(keeping, harm, counts, told_weights))
                for row in rows:
                    number = sum(one * other for one, other in zip(row, told_weights))
                    self.assertGreaterEqual(number, int(rows[row]))
        self.assertGreater(min(found.values()), 80)

    def test_is_weights_as_the_numbers_say(self):
        rng = random.Random(7)
        found = {True: 0, False: 0}
        for keeping, harm, counts in skewed_asked(8, 150):
            rows = harmed_rows(keeping, harm, counts)
            for _ in range(6):
                thing = [rng.randint(-2, 2) for _ in counts]
                expected = all(sum(one * other for one, other in zip(row, thing)) >= int(rows[row]) for row in rows)
                self.assertIs(is_weights(keeping, harm, counts, thing), expected)
                found[expected] += 1
        self.assertGreater(min(found.values()), 50)


class TestMost(Asking):

    def test_the_documents_example(self):
        number, parts = most(kept(), HARM, two_counts(), [1, 2])
        self.assertEqual([number, self.rows_harmed(parts, HARM)], [3, 3])
        self.assertEqual([abs(count.total(parts)) <= more for count, more in zip(two_counts(), [1, 2])], [True, True])

    def test_it_is_a_tuple(self):
        told_most = most(kept(), HARM, two_counts(), (1, 2))
        self.assertEqual([type(told_most), len(told_most), type(told_most[0]), type(told_most[1])], [tuple, 2, int, list])

    def test_no_slack(self):
        number, parts = most(kept(), HARM, two_counts(), [0, 0])
        self.assertEqual([number, self.rows_harmed(parts, HARM)], [0, 0])
        for at, more in enumerate(([1, 0], [0, 1])):
            keeping = kept()
            number, parts = most(keeping, HARM, two_counts(), more)
            self.assertEqual([number, self.rows_harmed(parts, HARM)], [1, 1])
            self.check_agreeing(keeping, two_counts(), parts, more)

    def test_no_greatest_number(self):
        self.assertIsNone(most(kept(), HARM, two_counts()[:1], [0]))
        self.assertIsNone(most(kept(), HARM, two_counts()[:1], [3]))
        self.assertIsNone(most(kept(), HARM, [], []))
        self.assertEqual(most(kept(), "none", [], [])[0], 0)

    def test_a_list_without_parts(self):
        self.assertEqual(most(kept("none"), "all", two_counts(), [3, 3]), (0, []))

    def test_as_walks_through_sums_say(self):
        rng = random.Random(9)
        found = {}
        asked = [(one.keeping, harm, counts) for one, harm, counts in itertools.chain(drawn_asked(10, 150), drawn_asked(11, 30, "ab", "mn"))]
        for keeping, harm, counts in itertools.chain(asked, skewed_asked(12, 150)):
            slack = [rng.randint(0, 3) for _ in counts]
            rows = harmed_rows(keeping, harm, counts)
            told_most = most(keeping, harm, counts, slack)
            self.assertEqual(told_most is None, hidden(keeping, harm, counts) is not None)
            if told_most is not None:
                number, parts = told_most
                self.check_agreeing(keeping, counts, parts, slack)
                self.assertEqual([number, number], [self.rows_harmed(parts, harm), most_harmed(rows, len(counts), slack)])
                bound = sum(abs(weight) * more for weight, more in zip(weights(keeping, harm, counts), slack))
                self.assertLessEqual(number, bound)
                found[number] = found.get(number, 0) + 1
        self.assertGreater(min(found.get(number, 0) for number in (0, 1, 2, 3)), 5)


class TestGuards(Asking):

    def test_the_documents_example(self):
        self.assertEqual(guards(kept(), HARM, two_counts()), [[0, 1]])
        self.assertEqual(guards(kept(), HARM, two_counts()[:1]), [])
        self.assertEqual(guards(kept(), HARM, []), [])
        self.assertEqual(guards(kept(), "none", []), [[]])

    def test_the_order(self):
        texts, counts = state_counts(["a", "b"], [(1, 1, 0, 1), (0, -1, 1, 0), (0, 0, -1, 1), (0, 0, 0, 0)])
        keeping = states_alone(["a", "b"])
        self.assertEqual(guards(keeping, texts[0], counts), [[0], [3]])
        self.assertEqual(guards(keeping, texts[0], counts[:1] + counts[3:]), [[0], [1]])
        texts, counts = state_counts(["a", "b"], [(1, 0, 1), (-1, 1, -1), (1, 1, 1), (0, 0, 0)])
        self.assertEqual(guards(keeping, f"{texts[0]} or {texts[1]} or {texts[2]}", counts), least_guards(
            harmed_rows(keeping, f"{texts[0]} or {texts[1]} or {texts[2]}", counts), 3,
        ))

    def test_all_of_two(self):
        texts, counts = state_counts(["a", "b"], [(1, 0, 0), (-1, 1, 1), (0, 0, 0), (0, 0, 0)])
        self.assertEqual(guards(states_alone(["a", "b"]), f"{texts[0]} or {texts[1]}", counts), [[0, 1], [0, 2]])

    def test_as_walks_through_sums_say(self):
        sizes = {}
        asked = [(one.keeping, harm, counts) for one, harm, counts in itertools.chain(drawn_asked(13, 120), drawn_asked(14, 30, "ab", "mn"))]
        for keeping, harm, counts in itertools.chain(asked, skewed_asked(15, 120)):
            told_guards = guards(keeping, harm, counts)
            self.assertEqual(told_guards, least_guards(harmed_rows(keeping, harm, counts), len(counts)))
            for guard in told_guards or [None]:
                size = None if guard is None else len(guard)
                sizes[size] = sizes.get(size, 0) + 1
        self.assertGreater(min(sizes[size] for size in (None, 0, 1, 2)), 10)


class TestUnsettled(Asking):

    def check_unsettled(self, keeping, counts, count):
        parts = unsettled(keeping, counts, count)
        if parts is not None:
            self.check_agreeing(keeping, counts, parts)
            self.assertNotEqual(count.total(parts), 0)
        return parts is not None

    def test_a_sum_of_the_others(self):
        one, other = two_counts()
        keeping = kept()
        for terms in ({"seen": 3, "taken": -3}, {"seen": -1, "taken": 1, "seen and not taken": 2}, {}, {"all": 0}):
            self.assertFalse(self.check_unsettled(keeping, [one, other], Count(terms)))
            self.assertFalse(self.check_unsettled(keeping, (other, one, one), Count(terms)))
        self.assertTrue(self.check_unsettled(keeping, [one], other))
        self.assertTrue(self.check_unsettled(keeping, [other], one))
        self.assertFalse(self.check_unsettled(keeping, [one, other], one))

    def test_a_sum_of_the_others_on_stories_that_lists_which_agree_can_have(self):
        one, other = two_counts()
        keeping = kept()
        self.assertFalse(self.check_unsettled(keeping, [one, other], Count({HARM: 5, "seen and not taken": -2})))
        self.assertTrue(self.check_unsettled(keeping, [one], Count({HARM: 5})))
        self.assertFalse(self.check_unsettled(keeping, [one], Count({HARM: 5, "seen and not taken": -5})))
        self.assertTrue(self.check_unsettled(keeping, [one], Count({HARM: 5, "seen and not taken": -4})))
        self.assertTrue(self.check_unsettled(keeping, [one, other], Count({"open@done": 1})))

    def test_no_counts(self):
        keeping = kept()
        self.assertTrue(self.check_unsettled(keeping, [], Count({"seen": -8})))
        self.assertEqual(sum(many for story, many in unsettled(keeping, [], Count({"seen": 1}))), 1)
        self.assertIsNone(unsettled(keeping, [], Count({"taken and not open@done": 1})))

    def test_lists_whose_parts_do_not_agree_alone(self):
        texts, counts = state_counts(["a", "b", "c"], [(2, 1), (-1, 1), (1, -2), (1, 0), (-1, 0), (0, 0), (0, 0), (0, 0)])
        keeping = states_alone(["a", "b", "c"])
        for numbers, expected in [((8, 8, 8, 8, 8), True), ((3, 0, -1, 1, -1), False), ((3, 0, -1, 1, 0), True), ((3, 1, -1, 1, -1), True), ((1, 1, -2, 0, 0), False)]:
            self.assertEqual(self.check_unsettled(keeping, counts, Count(dict(zip(texts, numbers)))), expected, numbers)

    def test_as_walks_through_sums_say(self):
        rng = random.Random(16)
        found = {True: 0, False: 0}
        asked = [(one.keeping, counts[:2], one.keeping.words()) for one, harm, counts in itertools.chain(drawn_asked(17, 120), drawn_asked(18, 30, "ab", "mn"))]
        asked += [(keeping, counts[:2], [str(formula) for formula, number in counts[0].terms()]) for keeping, harm, counts in skewed_asked(19, 100)]
        for keeping, counts, words in asked:
            mix = {}
            for count in counts:
                times = rng.randint(-2, 2)
                for formula, number in count.terms():
                    mix[str(formula)] = mix.get(str(formula), 0) + times * number
            for terms in (mix, {**mix, rng.choice(words): 1}, {rng.choice(words): 1, rng.choice(words): -2}):
                rows = list({numbers_of(keeping, [*counts, Count(terms)], story): True for story in stories(keeping)})
                expected = is_unsettled(rows, len(counts), 24)
                self.assertEqual(self.check_unsettled(keeping, counts, Count(terms)), expected)
                found[expected] += 1
        self.assertGreater(min(found.values()), 100)


class TestErrors(Refusing):

    def all_of_them(self, kind, attributes, keeping, harm, counts):
        for call, more in ((hidden, []), (weights, []), (is_weights, [5]), (most, [[0] * len(counts)]), (guards, [])):
            self.refused(kind, attributes, call, keeping, harm, counts, *more)

    def test_harms(self):
        for thing in [*any_objects(), None, "seen and", ["seen"]]:
            if not isinstance(thing, Formula):
                for keeping in (kept(), kept("none")):
                    self.all_of_them(BadFormula, [thing], keeping, thing, [Count({"x": 1})])
        for text, word in [("seen and x or y", "x"), ("open", "open"), ("there@later", "there@later"), ("not (seen or ticked)", "ticked")]:
            for harm in (text, Formula(text)):
                self.all_of_them(NoWord, [word], kept(), harm, [Count({"z": 1})])
                self.all_of_them(NoWord, [word], kept("none"), harm, [])

    def test_words_of_counts(self):
        counts = [Count({"seen": 1}), Count({"taken and seen": 1, "seen or u and v": 0}), Count({"w": 1})]
        for keeping in (kept(), kept("none")):
            self.all_of_them(NoWord, ["u"], keeping, HARM, counts)
            self.all_of_them(NoWord, ["w"], keeping, HARM, counts[::-1])
            self.refused(NoWord, ["u"], unsettled, keeping, counts, Count({"x": 1}))
            self.refused(NoWord, ["w"], unsettled, keeping, tuple(counts[:1] + counts[2:]), counts[1])
            self.refused(NoWord, ["u"], unsettled, keeping, counts[:1], counts[1])
            self.refused(NoWord, ["u"], unsettled, keeping, [], counts[1])

    def test_slacks(self):
        for thing in [*any_objects(), None, [1], [1, 1, 1], [1, -1], [-1, 0], [True, 1], [0, None], ["1", 1], {0: 1, 1: 1}, "12", [1.0, 1]]:
            self.refused(BadSlack, [thing], most, kept(), 5, [Count({"x": 1}), Count({"y": 1})], thing)
            self.refused(BadSlack, [thing], most, kept(), HARM, two_counts(), thing)
        for thing in (None, [0], {}, "", 0):
            self.refused(BadSlack, [thing], most, kept(), HARM, [], thing)
        self.refused(BadFormula, [5], most, kept(), 5, [], ())


class TestConventions(unittest.TestCase):

    def test_what_is_passed_stays_as_it_is(self):
        counts, slack, thing = two_counts(), [1, 2], [-1, 1]
        keeping = kept()
        passed = list(counts)
        for _ in range(2):
            for call in (hidden, weights, guards):
                call(keeping, HARM, counts)
            most(keeping, HARM, counts, slack)
            is_weights(keeping, HARM, counts, thing)
            unsettled(keeping, counts, counts[0])
            self.assertEqual([slack, thing, len(counts)], [[1, 2], [-1, 1], 2])
            self.assertTrue(counts[0] is passed[0] and counts[1] is passed[1])

    def test_what_is_told_is_new(self):
        keeping = kept()
        one = two_counts()[:1]
        calls = [
            lambda: [(told(story), many) for story, many in hidden(keeping, HARM, one)],
            lambda: [(told(story), many) for story, many in most(keeping, HARM, two_counts(), [2, 2])[1]],
            lambda: [(told(story), many) for story, many in unsettled(keeping, one, two_counts()[1])],
        ]
        before = [copy.deepcopy(call()) for call in calls]
        for parts in (hidden(keeping, HARM, one), most(keeping, HARM, two_counts(), [2, 2])[1], unsettled(keeping, one, two_counts()[1])):
            for story, many in parts:
                story.events[0].append("x")
                story.left_out.append("y")
            parts.clear()
        guards(keeping, HARM, two_counts())[0].append(5)
        guards(keeping, HARM, two_counts()).clear()
        weights(keeping, HARM, two_counts()).append(7)
        self.assertEqual([call() for call in calls], before)
        self.assertEqual([guards(keeping, HARM, two_counts()), len(weights(keeping, HARM, two_counts()))], [[[0, 1]], 2])

    def test_tuples_and_texts(self):
        keeping = kept()
        for counts in (two_counts(), tuple(two_counts())):
            for harm in (HARM, Formula(HARM)):
                self.assertEqual([told(story) for story, many in hidden(keeping, harm, counts[:1])],
                                 [told(story) for story, many in hidden(keeping, HARM, two_counts()[:1])])
                self.assertEqual(weights(keeping, harm, counts), weights(keeping, HARM, two_counts()))
                self.assertEqual(guards(keeping, harm, counts), [[0, 1]])

    def test_ready_keepings(self):
        safe = both_times(mails(), "ticked", "done", "open", "go")
        self.assertIsNone(hidden(safe, "taken and not kept", [Count({"kept": 1, "taken": -1})]))
        self.assertIsNone(hidden(safe, "kept and not taken", [Count({"kept": 1, "taken": -1})]))
        self.assertEqual(sum(many for story, many in hidden(safe, "kept and not taken", [Count({"open@done": 1, "taken": -1})])), 1)


def largest(facts, moments):
    """Return a keeping with some thousand stories."""
    events = [("come", "all", []), ("go", "all", "go")]
    for fact in facts:
        events += [("on" + fact, "all", {fact: True}), ("off" + fact, "all", {fact: False})]
    steps = [
        ("mark", moments[0], "seen", "a"), ("deed", moments[0], "da", "b", {"a": True}, "stops"), ("mark", moments[1], "late", "seen or b"),
        ("deed", moments[1], "db", "there", {"b": False}, "stops"), ("mark", moments[2], "last", "seen and not late or a"),
        ("deed", moments[2], "dc", "last or late", "go", "stops"),
    ]
    return Keeping(World(facts, moments, events[:7]), steps)


class TestLimits(Asking):

    def test_keepings_with_some_thousand_stories_are_quick(self):
        begin = time.perf_counter()
        for facts, moments in ((["a", "b", "c"], ["k", "l", "m"]), (["a", "b"], ["k", "l", "m", "n"])):
            keeping = largest(facts, moments)
            last = f"b@{moments[-1]}"
            three = [Count({"seen": 1, "dc": -1}), Count({"da": 1, "db and not late": -1}), Count({f"{last} and not a@k": 1, f"a@k and not {last}": -1})]
            two = [Count({"seen": 1, "da": 1, "dc": -1, "db": -1}), Count({"late": 2, f"{last} or a@l and not b@k": -2})]
            further = Count({"seen": 3, "late": 5, "dc and a@k": -8, last: -3})
            for counts in (three, two):
                for harm in ("dc and not last", "dc and not seen and a@l", f"db and {last} and not (late or seen)"):
                    for _ in range(5):
                        hidden(keeping, harm, counts)
                        found = weights(keeping, harm, counts)
                        is_weights(keeping, harm, counts, found)
                        most(keeping, harm, counts, [3] * len(counts))
                        guards(keeping, harm, counts)
                        unsettled(keeping, counts, further)
        self.assertLess(time.perf_counter() - begin, 20)

    def test_numbers_somewhat_beyond_the_limits(self):
        texts, counts = state_counts(["a", "b"], [(9, 1, 1, 1), (-7, 0, 1, -1), (0, -1, 0, 5), (0, 0, -3, -4)])
        keeping = states_alone(["a", "b"])
        self.assertIsNone(hidden(keeping, texts[0], counts))
        parts = hidden(keeping, texts[0], counts[:3])
        self.check_agreeing(keeping, counts[:3], parts)
        self.assertEqual([many for story, many in parts], [21, 27, 21, 16])
        self.assertTrue(is_weights(keeping, texts[0], counts, weights(keeping, texts[0], counts)))


if __name__ == "__main__":
    unittest.main()
