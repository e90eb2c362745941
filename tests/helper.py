"""What the tests share."""

import copy
import unittest

from onelooker.errors import LookerError


class LookerCase(unittest.TestCase):
    """A test case that knows the errors of the program."""

    def refuses(self, error, told, call, *args, **more):
        """The call raises exactly this error, with exactly these attributes, of exactly these kinds."""
        with self.assertRaises(LookerError) as caught:
            call(*args, **more)
        self.assertIs(type(caught.exception), error)
        self.assertEqual(repr(vars(caught.exception)), repr(told))
        return caught.exception

    def gives(self, wanted, call, *args, **more):
        """The call returns this value, of exactly these kinds, and changes no argument."""
        before = copy.deepcopy((args, more))
        found = call(*args, **more)
        self.assertEqual(repr(found), repr(wanted))
        self.assertEqual((args, more), before)
        return found
