"""A test case that looks at the attributes of errors."""

import unittest

from tests.test_errors import ERRORS


class Checks(unittest.TestCase):
    def refused(self, error, things, call, *arguments, **named):
        """The call raises this very error with these attributes, kinds included."""
        with self.assertRaises(ValueError) as caught:
            call(*arguments, **named)
        self.assertIs(type(caught.exception), error, f"{caught.exception!r} of {arguments!r}")
        found = tuple(getattr(caught.exception, name) for name in ERRORS[error.__name__])
        for thing, wanted in zip(found, things, strict=True):
            self.assertTrue(thing is wanted or same(thing, wanted), f"{found!r} is not {things!r}")

    def unlike_all(self, thing, *others):
        for other in others:
            self.assertFalse(thing == other, f"{thing!r} and {other!r}")
            self.assertTrue(thing != other)


def same(thing, wanted):
    return type(thing) is type(wanted) and thing == wanted
