"""The examples of the document, and those of README.md."""

import doctest
import os
import unittest

from allticked.counts import Count
from allticked.formulas import Formula, choice
from allticked.hiding import guards, hidden, is_weights, most
from allticked.keepings import Keeping
from allticked.living import Live
from allticked.marks import demands, least_marks
from allticked.ready import both_times, by_question, these
from allticked.stories import harmed, reached
from allticked.trials import Trials
from allticked.worlds import World

README = os.path.join(os.path.dirname(os.path.dirname(os.path.abspath(__file__))), "README.md")


class TestExamples(unittest.TestCase):

    def test_formulas(self):
        told = [
            str(Formula("open and not (mine or old@shown)")),
            str(~(Formula("a") | Formula("b"))),
            choice(Formula("a or b"), Formula("b")),
        ]
        self.assertEqual(told, ["open and not (mine or old@shown)", "not (a or b)", ["a"]])

    def test_worlds(self):
        events = [
            ("close", "open", {"open": False}), ("reopen", "there and not open", {"open": True}),
            ("come", "not there", ["open"]), ("go", "there", "go"),
        ]
        mails = World(["open"], ["shown", "ticked", "done"], events)
        told = [mails.all_states(), mails.leads(("open",), "done"), mails.way(None, (), "done")]
        self.assertEqual(told, [[None, (), ("open",)], [None, (), ("open",)], ["come", "close"]])

    def test_ready_ones(self):
        events = [
            ("close", "open", {"open": False}), ("reopen", "there and not open", {"open": True}),
            ("come", "not there", ["open"]), ("go", "there", "go"),
        ]
        mails = World(["open"], ["shown", "ticked", "done"], events)
        unseen = harmed(by_question(mails, "done", "open", "go"), "taken and not open@shown")
        closed = harmed(these(mails, "ticked", "done", "open", "go"), "taken and not open@done")
        self.assertEqual(
            [unseen.states, unseen.events, closed.states, closed.events],
            [(None, None, ("open",)), [[], ["come"]], (("open",), ("open",), ()), [[], ["close"]]],
        )

    def test_stories(self):
        mails = World(["open"], ["ticked", "done"], [("close", "open", {"open": False}), ("go", "there", "go")])
        safe = both_times(mails, "ticked", "done", "open", "go")
        self.assertEqual(
            [harmed(safe, "taken and not (open@ticked and open@done)"), reached(safe)["done"]],
            [None, [(None, ()), (None, ("kept",)), ((), ()), ((), ("kept",)), (("open",), ("kept",))]],
        )

    def test_marks(self):
        mails = World(["open"], ["ticked", "done"], [("close", "open", {"open": False}), ("reopen", "there and not open", {"open": True})])
        must, never = "open@ticked and open@done", "not open@ticked"
        self.assertEqual(
            [demands(mails, "ticked", "done", must, never)[((), ("open",))], least_marks(mails, "ticked", "done", must, never)],
            ["leave", [[None, ()], [("open",)]]],
        )

    def kept(self):
        events = [
            ("close", "open", {"open": False}), ("reopen", "there and not open", {"open": True}), ("new", "all", ["open"]),
            ("drop", "there", "go"),
        ]
        mails = World(["open"], ["ticked", "done"], events)
        return Keeping(mails, [("mark", "ticked", "seen", "open"), ("deed", "done", "taken", "open", "go")])

    def test_hidden_harm(self):
        kept = self.kept()
        counts = [Count({"seen": 1, "taken": -1}), Count({"seen and not taken": 1})]
        harm = "taken and not seen"
        told = [
            sum([many for story, many in hidden(kept, harm, counts[:1])]), hidden(kept, harm, counts),
            is_weights(kept, harm, counts, [-1, 1]), guards(kept, harm, counts), most(kept, harm, counts, [1, 2])[0],
        ]
        self.assertEqual(told, [2, None, True, [[0, 1]], 3])

    def test_trials(self):
        trials = Trials(self.kept(), "taken")
        trials.saw((("open",), ()), False)
        trials.saw((("open",), ("seen",)), True)
        self.assertEqual(
            [trials.unseen(), trials.fitting(["open", "seen", "open and seen"]), trials.parting("seen", "open and seen")],
            [[(None, ()), (None, ("seen",)), ((), ()), ((), ("seen",))], ["seen", "open and seen"], ((), ("seen",))],
        )

    def test_live_lists(self):
        live = Live(self.kept(), {"bill": ["open"], "note": [], "card": None})
        live.happens("bill", "close")
        live.happens("card", "new")
        self.assertEqual(
            [live.go(), live.holds("card"), live.story_of("bill").states, live.totals([Count({"seen": 1, "taken": -1})])],
            [{"taken": ["card"]}, ["open@done", "there@done", "taken"], (("open",), ()), [0]],
        )

    def test_readme(self):
        failed, tried = doctest.testfile(README, module_relative=False)
        self.assertEqual(failed, 0)
        self.assertGreater(tried, 0)


if __name__ == "__main__":
    unittest.main()
