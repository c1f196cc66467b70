"""Points [14] to [16], and the first part of [40]: readings and plain values."""

import copy
import unittest

from toldwhensure.plainly import plain_balance, plain_value, readings, value_of
from tests.support import HUGE

PLAN = (10, (("a", 0, 5, 3), ("b", -9, 9, 0), ("c", 0, 5, 3)))
# True times of a: -1, 0, 9, 9, 10; of b: 0, 4, 9, 20; of c: 5, 10.
HISTORY = (
    ("a", -3, ((2, (5,)), (3, (1, 4)), (12, (2,)), (12, (3, None)), (13, (0,)))),
    ("b", 0, ((0, (-9,)), (4, (7, None, 2)), (9, (4,)), (20, (9, None)))),
    ("c", 3, ((2, (2,)), (7, (5, None, 3)))),
)


class Readings(unittest.TestCase):
    def test_one_meter(self):
        self.assertEqual(readings(PLAN, HISTORY, ("a",), 0), (2, 4))
        self.assertEqual(readings(PLAN, HISTORY, ("a",), 1), (0,))
        self.assertEqual(readings(PLAN, HISTORY, ("b",), 0), (-9, 2, 4))
        self.assertEqual(readings(PLAN, HISTORY, ("c",), 1), (3,))

    def test_negative_times(self):
        self.assertEqual(readings(PLAN, HISTORY, ("a",), -1), (5,))
        history = (("a", -3, ((-20, (1,)), (-18, (2,)), (-17, (3,)), (-8, (4,)), (-7, (5,)))),) + HISTORY[1:]
        self.assertEqual(readings(PLAN, history, ("a",), -3), (1, 2))
        self.assertEqual(readings(PLAN, history, ("a",), -2), (3, 4))
        self.assertEqual(readings(PLAN, history, ("a",), -1), (5,))

    def test_several_meters_in_ascending_order_with_duplicates(self):
        self.assertEqual(readings(PLAN, HISTORY, ("a", "b"), 0), (-9, 2, 2, 4, 4))
        self.assertEqual(readings(PLAN, HISTORY, ("a", "c"), 0), (2, 2, 4))
        self.assertEqual(readings(PLAN, HISTORY, ("a", "b", "c"), 0), (-9, 2, 2, 2, 4, 4))
        self.assertEqual(readings(PLAN, HISTORY, ("b", "c"), 1), (3,))

    def test_windows_without_a_reading(self):
        self.assertEqual(readings(PLAN, HISTORY, ("a", "b", "c"), 5), ())
        self.assertEqual(readings(PLAN, HISTORY, ("b",), -1), ())
        self.assertEqual(readings(PLAN, HISTORY, ("b",), 2), ())
        self.assertEqual(readings(PLAN, HISTORY, ("b",), HUGE), ())

    def test_offsets_move_slots_into_other_windows(self):
        moved = (
            (-3, (1, 2), (3,)), (-2, (1, 2), (3,)), (-1, (1,), (2, 3)), (0, (1,), (2, 3)), (1, (), (1, 2, 3)),
            (2, (), (1, 2)), (3, (), (1, 2)),
        )
        for offset, first, second in moved:
            history = (("a", offset, ((9, (1,)), (11, (2,)), (18, (3,)))),) + HISTORY[1:]
            self.assertEqual(readings(PLAN, history, ("a",), 0), first)
            self.assertEqual(readings(PLAN, history, ("a",), 1), second)

    def test_only_the_last_version_counts(self):
        for versions, found in (((4,), (4,)), ((4, 1), (1,)), ((4, None), ()), ((4, None, 0), (0,)), ((4, 2, 4), (4,))):
            history = (("a", 0, ((3, versions),)), ("b", 0, ()), ("c", 0, ()))
            self.assertEqual(readings(PLAN, history, ("a",), 0), found)

    def test_a_tuple(self):
        self.assertIs(readings(PLAN, HISTORY, ("a",), 0).__class__, tuple)
        self.assertIs(readings(PLAN, HISTORY, ("a",), 7).__class__, tuple)

    def test_very_large_numbers(self):
        plan = (HUGE, (("a", -HUGE, HUGE, 1),))
        history = (("a", 1, ((-1, (-HUGE,)), (HUGE - 2, (HUGE,)), (HUGE - 1, (0,)))),)
        self.assertEqual(readings(plan, history, ("a",), 0), (-HUGE, HUGE))
        self.assertEqual(readings(plan, history, ("a",), 1), (0,))


class Values(unittest.TestCase):
    def test_counts(self):
        for values, found in (((), 0), ((4,), 1), ((4, 4), 2), ((-3, 0, 0, 7), 4), ((HUGE,), 1)):
            self.assertEqual(value_of(("count",), values), found)

    def test_sums(self):
        for values, found in (((), 0), ((4,), 4), ((4, 4), 8), ((-3, 0, 0, 7), 4), ((-5, -2), -7)):
            self.assertEqual(value_of(("sum",), values), found)
        self.assertEqual(value_of(("sum",), (-HUGE, HUGE, HUGE)), HUGE)

    def test_among(self):
        values = (-3, 0, 0, 4, 7)
        cases = (
            (-3, 7, 5), (-2, 7, 4), (-3, 6, 4), (-2, 6, 3), (0, 0, 2), (1, 3, 0), (4, 4, 1), (1, 4, 1), (4, 6, 1),
            (8, 9, 0), (-9, -4, 0), (-HUGE, HUGE, 5), (HUGE, HUGE, 0),
        )
        for low, high, found in cases:
            self.assertEqual(value_of(("among", low, high), values), found)
        self.assertEqual(value_of(("among", 0, 5), ()), 0)
        self.assertEqual(value_of(("among", HUGE, HUGE), (HUGE - 1, HUGE, HUGE + 1)), 1)

    def test_ranks(self):
        values = (2, 3, 3, 9)
        cases = (
            (0, 1, 2), (1, 1, 9), (1, 2, 3), (1, 3, 3), (2, 3, 3), (1, 4, 2), (2, 4, 3), (3, 4, 3), (4, 4, 9),
            (6, 20, 2), (7, 20, 3), (19, 20, 3), (20, 20, 9), (0, 20, 2),
        )
        for part, whole, found in cases:
            self.assertEqual(value_of(("rank", part, whole), values), found)

    def test_each_rank_has_the_told_index(self):
        for many in range(1, 30):
            values = tuple(range(many))
            for whole in range(1, 21):
                for part in range(whole + 1):
                    index = (many - 1) * part // whole
                    self.assertEqual(value_of(("rank", part, whole), values), values[index])

    def test_ranks_of_no_and_of_equal_readings(self):
        for part, whole in ((0, 1), (1, 1), (1, 2), (20, 20)):
            self.assertIsNone(value_of(("rank", part, whole), ()))
            self.assertEqual(value_of(("rank", part, whole), (4,)), 4)
            self.assertEqual(value_of(("rank", part, whole), (4, 4, 4)), 4)
            self.assertEqual(value_of(("rank", part, whole), (HUGE, HUGE)), HUGE)

    def test_a_least_reading_of_0_is_no_missing_one(self):
        self.assertEqual(value_of(("rank", 0, 1), (0, 5)), 0)

    def test_the_example(self):
        self.assertEqual(value_of(("rank", 1, 2), (2, 3, 3, 9)), 3)


class PlainValues(unittest.TestCase):
    def test_the_example(self):
        plan = (10, (("a", 0, 5, 1),))
        history = (("a", 1, ((3, (4,)), (8, (2, None)), (8, (1, 5)), (9, (3,)))),)
        self.assertEqual(plain_value(plan, history, ("sum",), ("a",), 0), 9)

    def test_each_aggregate(self):
        both = ("a", "b")
        self.assertEqual(plain_value(PLAN, HISTORY, ("count",), both, 0), 5)
        self.assertEqual(plain_value(PLAN, HISTORY, ("sum",), both, 0), 3)
        self.assertEqual(plain_value(PLAN, HISTORY, ("among", 2, 3), both, 0), 2)
        self.assertEqual(plain_value(PLAN, HISTORY, ("rank", 0, 1), both, 0), -9)
        self.assertEqual(plain_value(PLAN, HISTORY, ("rank", 3, 4), both, 0), 4)
        self.assertEqual(plain_value(PLAN, HISTORY, ("sum",), ("c",), 1), 3)

    def test_no_readings(self):
        for aggregate, found in ((("count",), 0), (("sum",), 0), (("among", 0, 5), 0), (("rank", 1, 2), None)):
            self.assertEqual(plain_value(PLAN, HISTORY, aggregate, ("a", "c"), 9), found)


class PlainBalances(unittest.TestCase):
    def test_without_terms(self):
        self.assertEqual(plain_balance(PLAN, HISTORY, ()), 0)

    def test_one_term(self):
        self.assertEqual(plain_balance(PLAN, HISTORY, ((1, ("sum",), ("a",), 0),)), 6)
        self.assertEqual(plain_balance(PLAN, HISTORY, ((-1, ("sum",), ("a",), 0),)), -6)
        self.assertEqual(plain_balance(PLAN, HISTORY, ((3, ("count",), ("a", "b"), 0),)), 15)
        self.assertEqual(plain_balance(PLAN, HISTORY, ((-7, ("count",), ("b",), 2),)), 0)

    def test_several_terms(self):
        balance = (
            (2, ("sum",), ("a",), 0), (-5, ("count",), ("b",), 0), (1, ("sum",), ("b", "c"), 0), (-1, ("sum",), ("c",), 1),
        )
        self.assertEqual(plain_balance(PLAN, HISTORY, balance), 12 - 15 - 1 - 3)

    def test_the_same_term_twice(self):
        term = (2, ("sum",), ("a",), 0)
        self.assertEqual(plain_balance(PLAN, HISTORY, (term, term)), 24)
        self.assertEqual(plain_balance(PLAN, HISTORY, (term, (-2, ("sum",), ("a",), 0))), 0)

    def test_very_large_factors(self):
        self.assertEqual(plain_balance(PLAN, HISTORY, ((HUGE, ("sum",), ("a",), 0),)), 6 * HUGE)

    def test_nothing_is_modified(self):
        history = copy.deepcopy(HISTORY)
        plain_balance(PLAN, HISTORY, ((1, ("sum",), ("a", "b", "c"), 0),))
        self.assertEqual(HISTORY, history)


if __name__ == "__main__":
    unittest.main()
