from unittest import TestCase

from guardhopes import limits


class LimitsTest(TestCase):
    def test_each_number(self):
        told = {
            "MOST_LETTERS": 3, "MOST_STATES": 6, "MOST_COLOUR": 6,
            "MOST_WORD": 200, "MOST_CHANGES": 5, "MOST_DEMANDS": 5,
        }
        for name, number in told.items():
            with self.subTest(name):
                self.assertEqual(getattr(limits, name), number)
                self.assertIs(type(getattr(limits, name)), int)
