"""The check that every test of a refusal makes."""

import unittest


class RefusalCase(unittest.TestCase):
    def assertRefused(self, error, call, *handed):
        with self.assertRaises(error) as caught:
            call(*handed)
        self.assertIs(type(caught.exception), error)
