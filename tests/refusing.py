"""A test case that asks for refusals."""

import unittest

from flapwater.errors import FlapError


class Refusing(unittest.TestCase):
    def refused(self, error, what, asked, *told_with):
        with self.assertRaises(FlapError) as caught:
            asked(*told_with)
        self.assertIs(type(caught.exception), error)
        self.assertEqual(caught.exception.what, what)
