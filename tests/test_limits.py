import unittest

from quotedthreads import limits


class Limits(unittest.TestCase):
    def test_signs_are_a_string_in_order(self):
        self.assertIs(str, limits.SIGNS.__class__)
        self.assertEqual("#*+:=>|", limits.SIGNS)
        self.assertEqual(list(limits.SIGNS), sorted(limits.SIGNS))

    def test_numbers(self):
        for name, worth in (
            ("MOST_PEOPLE", 4),
            ("MOST_PROGRAMS", 4),
            ("MOST_CASES", 5),
            ("MOST_ANSWERS", 8),
            ("MOST_SIGNS", 4),
            ("MOST_EXCHANGES", 6),
            ("MOST_COUNT", 20),
        ):
            with self.subTest(name=name):
                self.assertIs(int, getattr(limits, name).__class__)
                self.assertEqual(worth, getattr(limits, name))
