"""The examples of the document for formulas and worlds, and those of README.md."""

import doctest
import os
import unittest

from allticked.formulas import Formula, choice
from allticked.worlds import World

README = os.path.join(os.path.dirname(os.path.dirname(os.path.abspath(__file__))), "README.md")


class TestExamples(unittest.TestCase):

    def test_formulas(self):
        told = [
            str(Formula("open and not (mine or old@shown)")),
            str(~(Formula("a") | Formula("b"))),
            choice(Formula("a or b"), Formula("b")),
        ]
        self.assertEqual(told, ["open and not (mine or old@shown)", "not (a or b)", ["a"]])

    def test_worlds(self):
        events = [
            ("close", "open", {"open": False}), ("reopen", "there and not open", {"open": True}),
            ("come", "not there", ["open"]), ("go", "there", "go"),
        ]
        mails = World(["open"], ["shown", "ticked", "done"], events)
        told = [mails.all_states(), mails.leads(("open",), "done"), mails.way(None, (), "done")]
        self.assertEqual(told, [[None, (), ("open",)], [None, (), ("open",)], ["come", "close"]])

    def test_readme(self):
        failed, tried = doctest.testfile(README, module_relative=False)
        self.assertEqual(failed, 0)
        self.assertGreater(tried, 0)


if __name__ == "__main__":
    unittest.main()
