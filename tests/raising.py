"""Errors, with all that they tell."""

import unittest


class Raising(unittest.TestCase):
    def assert_raises(self, error, attributes, function, *values):
        """That this call raises just this error, with these attributes and no others."""
        with self.assertRaises(error, msg=(function.__name__, values)) as caught:
            function(*values)
        self.assertIs(error, type(caught.exception))
        self.assertEqual(repr(attributes), repr(vars(caught.exception)))
