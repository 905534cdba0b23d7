"""A test case that tells the class and the attributes of an error."""

import unittest


class Refusals(unittest.TestCase):
    def refused(self, error, attributes, action):
        with self.assertRaises(error) as caught:
            action()
        self.assertIs(type(caught.exception), error)
        self.assertEqual(vars(caught.exception), attributes)
