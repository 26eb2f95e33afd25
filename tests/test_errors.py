"""The interface of errors.py."""

import unittest

from allticked import errors
from tests.pool import any_objects

LISTED = {
    "BadName": ["name"], "BadFormula": ["text"], "NoWord": ["word"], "BadCount": ["count"], "BadEvent": ["index"],
    "BadSpan": ["moment"], "BadState": ["state"], "NoEvent": ["event"], "NoMoment": ["moment"], "BadStep": ["index"],
    "NoStep": ["name"], "BadEffect": ["effect"], "UnlikeWorlds": [], "UnlikeDeeds": [], "NameInUse": ["name"],
    "NotThere": ["story"], "Quarrel": ["one", "other"], "BadNumber": ["number"], "BadSlack": ["slack"],
    "NoView": ["view"], "BadTruth": ["taken"], "Contradiction": ["view"], "NoName": ["name"],
    "CannotHappen": ["event"], "NotDone": ["moment"],
}


class TestErrors(unittest.TestCase):

    def test_base(self):
        self.assertEqual(errors.TickError.__bases__, (ValueError,))

    def test_each_is_a_direct_subclass_defined_here(self):
        for name in LISTED:
            kind = getattr(errors, name)
            self.assertEqual(kind.__bases__, (errors.TickError,), name)
            self.assertEqual(kind.__module__, "allticked.errors", name)

    def test_there_are_no_others(self):
        defined = [name for name, thing in vars(errors).items() if isinstance(thing, type)]
        self.assertEqual(sorted(defined), sorted(["TickError", *LISTED]))

    def test_attributes_by_position_from_any_values(self):
        for name, attributes in LISTED.items():
            for thing in any_objects():
                values = [thing, object()][:len(attributes)]
                error = getattr(errors, name)(*values)
                for attribute, value in zip(attributes, values):
                    self.assertIs(getattr(error, attribute), value, name)

    def test_the_order_of_two_attributes(self):
        error = errors.Quarrel(1, 2)
        self.assertEqual((error.one, error.other), (1, 2))

    def test_they_take_just_their_attributes(self):
        for name, attributes in LISTED.items():
            if attributes:
                self.assertRaises(TypeError, getattr(errors, name))
                self.assertRaises(TypeError, getattr(errors, name), *range(len(attributes) + 1))

    def test_they_can_be_caught_by_their_base(self):
        with self.assertRaises(errors.TickError):
            raise errors.UnlikeWorlds()
        with self.assertRaises(ValueError):
            raise errors.BadCount(0)


if __name__ == "__main__":
    unittest.main()
