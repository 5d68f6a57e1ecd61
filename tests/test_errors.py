import unittest

from towerrow import errors

NAMES = ("BadRule", "BadState", "BadPeg", "BadMove", "BadNumber", "Unlike", "BadText")


class Classes(unittest.TestCase):
    def test_tower_error_stands_straight_under_value_error(self):
        self.assertEqual(errors.TowerError.__bases__, (ValueError,))

    def test_each_refusal_stands_straight_under_tower_error(self):
        for name in NAMES:
            with self.subTest(name=name):
                self.assertEqual(getattr(errors, name).__bases__, (errors.TowerError,))

    def test_each_has_its_own_name(self):
        for name in NAMES + ("TowerError",):
            with self.subTest(name=name):
                self.assertEqual(getattr(errors, name).__name__, name)


if __name__ == "__main__":
    unittest.main()
