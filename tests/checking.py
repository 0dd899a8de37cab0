"""A test case that can check errors together with their arguments."""

import unittest


class YardTest(unittest.TestCase):
    """A test case for the program."""

    def refused(self, error, call, *arguments, **named):
        """Check that the call raises this error with these arguments, and no error of a class below it."""
        wanted, values = error
        with self.assertRaises(wanted) as caught:
            call(*arguments, **named)
        self.assertIs(caught.exception.__class__, wanted)
        self.assertEqual(dict(vars(caught.exception)), values)


def named(error, **values):
    """An error class with the values of its attributes."""
    return error, values
