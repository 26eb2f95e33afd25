"""What tests of errors have in common."""

import unittest

from allticked.errors import TickError


class Refusing(unittest.TestCase):

    def refused(self, kind, attributes, call, *passed, **named):
        """Check that a call raises an error of a kind, with these attributes, whatever they are."""
        with self.assertRaises(TickError) as caught:
            call(*passed, **named)
        self.assertEqual(type(caught.exception), kind)
        told = list(vars(caught.exception).values())
        self.assertEqual(len(told), len(attributes))
        for one, other in zip(told, attributes):
            self.assertTrue(one is other or one == other)
