"""Points [4] to [6]: names, plans, meters and windows."""

import unittest

from toldwhensure.plans import check_plan, meter_of, window_of
from tests.support import HUGE, assert_raises_only

LETTERS = "abcdefghijklmnopqrstuvwxyz"
NOT_LETTERS = [chr(code) for code in range(128) if chr(code) not in LETTERS]


def plan_with(length=10, place=0, **changes):
    """A right plan of three meters but for the changes of the meter at the place."""
    meters = []
    for at, name in enumerate(("bell", "cog", "dial")):
        meter = {"name": name, "low": -2, "high": 7, "error": 1}
        if at == place:
            meter.update(changes)
        meters.append((meter["name"], meter["low"], meter["high"], meter["error"]))
    return (length, tuple(meters))


class RightPlans(unittest.TestCase):
    def assert_right(self, plan):
        self.assertIsNone(check_plan(plan))

    def test_numbers_of_meters(self):
        for many in range(1, 21):
            with self.subTest(many):
                self.assert_right((10, tuple((letter, 0, 5, 0) for letter in LETTERS[:many])))

    def test_more_meters_than_the_bound(self):
        self.assert_right((10, tuple((letter, 0, 5, 0) for letter in LETTERS)))

    def test_lengths(self):
        for length in (1, 2, 10 ** 70, HUGE):
            self.assert_right(plan_with(length=length))

    def test_values(self):
        for low, high in ((0, 0), (-3, -3), (-HUGE, HUGE), (HUGE, HUGE), (HUGE, HUGE + 1)):
            for place in range(3):
                self.assert_right(plan_with(place=place, low=low, high=high))

    def test_clock_errors(self):
        for error in (0, 1, 60, 61, HUGE):
            for place in range(3):
                self.assert_right(plan_with(place=place, error=error))

    def test_names(self):
        for name in ("a", "z", LETTERS, "b" * 300, "read"):
            self.assert_right((10, ((name, 0, 5, 0),)))

    def test_a_name_that_begins_the_next_one(self):
        self.assert_right((10, (("a", 0, 5, 0), ("aa", 0, 5, 0), ("ab", 0, 5, 0), ("b", 0, 5, 0))))
        self.assert_right((10, (("pump", 0, 5, 0), ("pumps", 0, 5, 0))))

    def test_order_is_of_letters_not_of_lengths(self):
        self.assert_right((10, (("aazz", 0, 5, 0), ("ab", 0, 5, 0), ("b", 0, 5, 0))))


class WrongPlans(unittest.TestCase):
    def assert_wrong(self, plan):
        assert_raises_only(self, "InvalidPlan", check_plan, plan)

    def test_length_below_one(self):
        for length in (0, -1, -10, -HUGE):
            self.assert_wrong(plan_with(length=length))

    def test_no_meters(self):
        self.assert_wrong((10, ()))

    def test_blank_names(self):
        for place in range(3):
            for name in ("", " ", "   ", "\n"):
                self.assert_wrong(plan_with(place=place, name=name))
        self.assert_wrong((10, (("", 0, 5, 0),)))

    def test_characters_that_are_no_letters(self):
        for sign in NOT_LETTERS:
            for name in (sign, sign + "cog", "co" + sign + "g", "cog" + sign):
                with self.subTest(repr(name)):
                    self.assert_wrong((10, ((name, 0, 5, 0),)))

    def test_a_bad_name_at_each_meter(self):
        # These keep the order of the names, so that nothing but the character is wrong.
        for place, start, end in ((0, "a", "bell"), (1, "bell", "dial"), (2, "cog", "z")):
            for name in (start + "A", start + "1", start + " ", start + "\n", start + "-x"):
                self.assertTrue(start < name < end)
                with self.subTest(repr(name)):
                    self.assert_wrong(plan_with(place=place, name=name))

    def test_names_not_in_order(self):
        for names in ("bac", "acb", "cba", "bca", "cab"):
            self.assert_wrong((10, tuple((name, 0, 5, 0) for name in names)))

    def test_a_name_behind_one_that_begins_with_it(self):
        self.assert_wrong((10, (("ab", 0, 5, 0), ("a", 0, 5, 0))))
        self.assert_wrong((10, (("a", 0, 5, 0), ("bb", 0, 5, 0), ("b", 0, 5, 0))))

    def test_names_twice(self):
        for names in ("aab", "abb", "aba", "aaa", "aa"):
            self.assert_wrong((10, tuple((name, 0, 5, 0) for name in names)))
        self.assert_wrong((10, (("a", 0, 5, 0), ("a", 1, 6, 2))))

    def test_low_above_high(self):
        for place in range(3):
            for low, high in ((8, 7), (1, -1), (HUGE, -HUGE), (HUGE + 1, HUGE)):
                self.assert_wrong(plan_with(place=place, low=low, high=high))

    def test_negative_clock_errors(self):
        for place in range(3):
            for error in (-1, -60, -HUGE):
                self.assert_wrong(plan_with(place=place, error=error))

    def test_faults_among_twenty_meters(self):
        for place in (0, 10, 19):
            for changed in (("", 0, 5, 0), (LETTERS[place], 6, 5, 0), (LETTERS[place], 0, 5, -1)):
                meters = [(letter, 0, 5, 0) for letter in LETTERS[:20]]
                meters[place] = changed
                self.assert_wrong((10, tuple(meters)))


class Meters(unittest.TestCase):
    def test_each_name(self):
        meters = (("a", 0, 5, 1), ("aa", -3, 9, 0), ("aab", 2, 2, 60), ("b", 1, HUGE, 7))
        for meter in meters:
            self.assertEqual(meter_of((10, meters), meter[0]), meter)
            self.assertIsInstance(meter_of((10, meters), meter[0]), tuple)

    def test_the_only_meter(self):
        self.assertEqual(meter_of((1, (("x", 4, 4, 0),)), "x"), ("x", 4, 4, 0))

    def test_two_plans_in_turn(self):
        one = (10, (("a", 0, 5, 1), ("ab", 1, 6, 2)))
        other = (20, (("a", -9, 9, 3), ("ab", -8, 8, 4)))
        for _ in range(2):
            self.assertEqual(meter_of(one, "a"), ("a", 0, 5, 1))
            self.assertEqual(meter_of(other, "a"), ("a", -9, 9, 3))
            self.assertEqual(meter_of(one, "ab"), ("ab", 1, 6, 2))
            self.assertEqual(meter_of(other, "ab"), ("ab", -8, 8, 4))


class Windows(unittest.TestCase):
    def window(self, length, time):
        return window_of((length, (("a", 0, 5, 0),)), time)

    def test_the_example(self):
        self.assertEqual(self.window(10, -1), -1)

    def test_ends_of_windows(self):
        for length in (1, 2, 3, 10, 10 ** 70, HUGE):
            for window in (-10 ** 70, -3, -2, -1, 0, 1, 2, 10 ** 70, HUGE, -HUGE):
                first = window * length
                last = first + length - 1
                self.assertEqual(self.window(length, first - 1), window - 1)
                self.assertEqual(self.window(length, first), window)
                self.assertEqual(self.window(length, last), window)
                self.assertEqual(self.window(length, last + 1), window + 1)

    def test_each_time_by_the_words_of_the_point(self):
        for length in (1, 2, 7):
            for time in range(-30, 31):
                found = [w for w in range(-40, 41) if w * length <= time <= w * length + length - 1]
                self.assertEqual(found, [self.window(length, time)])

    def test_length_one(self):
        for time in (-5, -1, 0, 1, 5, HUGE, -HUGE):
            self.assertEqual(self.window(1, time), time)

    def test_two_plans_in_turn(self):
        for _ in range(2):
            self.assertEqual(self.window(10, 25), 2)
            self.assertEqual(self.window(6, 25), 4)


if __name__ == "__main__":
    unittest.main()
