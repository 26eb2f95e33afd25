"""The examples of the document for formulas, worlds, ready ones and stories, and those of README.md."""

import doctest
import os
import unittest

from allticked.formulas import Formula, choice
from allticked.ready import both_times, by_question, these
from allticked.stories import harmed, reached
from allticked.worlds import World

README = os.path.join(os.path.dirname(os.path.dirname(os.path.abspath(__file__))), "README.md")


class TestExamples(unittest.TestCase):

    def test_formulas(self):
        told = [
            str(Formula("open and not (mine or old@shown)")),
            str(~(Formula("a") | Formula("b"))),
            choice(Formula("a or b"), Formula("b")),
        ]
        self.assertEqual(told, ["open and not (mine or old@shown)", "not (a or b)", ["a"]])

    def test_worlds(self):
        events = [
            ("close", "open", {"open": False}), ("reopen", "there and not open", {"open": True}),
            ("come", "not there", ["open"]), ("go", "there", "go"),
        ]
        mails = World(["open"], ["shown", "ticked", "done"], events)
        told = [mails.all_states(), mails.leads(("open",), "done"), mails.way(None, (), "done")]
        self.assertEqual(told, [[None, (), ("open",)], [None, (), ("open",)], ["come", "close"]])

    def test_ready_ones(self):
        events = [
            ("close", "open", {"open": False}), ("reopen", "there and not open", {"open": True}),
            ("come", "not there", ["open"]), ("go", "there", "go"),
        ]
        mails = World(["open"], ["shown", "ticked", "done"], events)
        unseen = harmed(by_question(mails, "done", "open", "go"), "taken and not open@shown")
        closed = harmed(these(mails, "ticked", "done", "open", "go"), "taken and not open@done")
        self.assertEqual(
            [unseen.states, unseen.events, closed.states, closed.events],
            [(None, None, ("open",)), [[], ["come"]], (("open",), ("open",), ()), [[], ["close"]]],
        )

    def test_stories(self):
        mails = World(["open"], ["ticked", "done"], [("close", "open", {"open": False}), ("go", "there", "go")])
        safe = both_times(mails, "ticked", "done", "open", "go")
        self.assertEqual(
            [harmed(safe, "taken and not (open@ticked and open@done)"), reached(safe)["done"]],
            [None, [(None, ()), (None, ("kept",)), ((), ()), ((), ("kept",)), (("open",), ("kept",))]],
        )

    def test_readme(self):
        failed, tried = doctest.testfile(README, module_relative=False)
        self.assertEqual(failed, 0)
        self.assertGreater(tried, 0)


if __name__ == "__main__":
    unittest.main()
