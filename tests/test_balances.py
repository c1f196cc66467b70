"""Points [40] to [42], [19] and [27]: what is told of balances, and its witnesses."""

import unittest

from toldwhensure.balances import balance_witness, told_balance
from toldwhensure.plainly import plain_balance
from toldwhensure.telling import told
from tests.support import HUGE, assert_raises_only
from tests.telling import Told
from tests.test_telling import closed, reads

PLAN = (10, (("a", 0, 5, 0), ("b", -3, 9, 0), ("n", -9, -2, 0), ("z", 0, 0, 0)))
ERRING = (10, (("a", 0, 5, 2), ("b", -3, 9, 1)))
COUNT, SUM = ("count",), ("sum",)
A, B, N, Z = ("a",), ("b",), ("n",), ("z",)

SOME_BAGS = (
    (),
    reads("a", (2, 4)),
    closed("a", (2, 4), (3, None), (12, 1), hidden=1),
    closed("a", (2, 4), (3, 0)) + closed("b", (2, -1), (9, 7), hidden=2, stamp=10),
    (("read", "a", 1, 0, 2, 4), ("read", "a", 4, 0, 10, 3), ("close", "a", 4, 20, 4)),
    (("close", "b", 3, 10, 5), ("close", "a", 2, 5, 2), ("read", "a", 4, 1, 7, None)),
)


class OneTerm(Told):
    def test_as_the_count_or_the_sum(self):
        for plan in (PLAN, ERRING):
            for letters in SOME_BAGS:
                for aggregate in (COUNT, SUM):
                    for meters in (A, B, ("a", "b")):
                        for window in (0, 1, -1):
                            low, high = told(plan, letters, aggregate, meters, window)
                            self.assert_balance(plan, letters, ((1, aggregate, meters, window),), (low, high))
                            self.assert_balance(plan, letters, ((-1, aggregate, meters, window),), (
                                None if high is None else -high, None if low is None else -low
                            ))
                            self.assert_balance(plan, letters, ((7, aggregate, meters, window),), (
                                None if low is None else 7 * low, None if high is None else 7 * high
                            ))

    def test_fixed_answers(self):
        letters = closed("b", (2, 4), (3, None), (4, -2), hidden=1)
        self.assert_balance(PLAN, letters, ((2, SUM, B, 0),), (-10, 26))
        self.assert_balance(PLAN, letters, ((-2, SUM, B, 0),), (-26, 10))
        self.assert_balance(PLAN, letters, ((3, COUNT, B, 0),), (3, 9))
        self.assert_balance(PLAN, letters, ((-3, COUNT, B, 0),), (-9, -3))


class NoTerms(Told):
    def test_nothing(self):
        for letters in SOME_BAGS:
            self.assert_balance(PLAN, letters, (), (0, 0))


class OneWindow(Told):
    def test_terms_about_the_same_readings(self):
        letters = closed("a", (2, 4), (3, 1), hidden=1)
        # A reading with value v is worth v - 2.
        balance = ((1, SUM, A, 0), (-2, COUNT, A, 0))
        self.assert_balance(PLAN, letters, balance, (-3, 5))
        # A reading with value v is worth 2 - v.
        balance = ((-1, SUM, A, 0), (2, COUNT, A, 0))
        self.assert_balance(PLAN, letters, balance, (-5, 3))

    def test_worths_are_greatest_at_an_end_of_the_range(self):
        letters = (("close", "b", 0, 0, 0), ("close", "b", 2, 10, 2))
        self.assert_balance(PLAN, letters, ((1, SUM, B, 0), (-1, COUNT, B, 0)), (-8, 16))
        self.assert_balance(PLAN, letters, ((-1, SUM, B, 0), (-1, COUNT, B, 0)), (-20, 4))
        self.assert_balance(PLAN, letters, ((-1, SUM, B, 0), (-5, COUNT, B, 0)), (-28, -4))

    def test_worths_that_cancel_out(self):
        for letters in SOME_BAGS:
            self.assert_balance(PLAN, letters, ((1, SUM, A, 0), (-1, SUM, A, 0)), (0, 0))
            self.assert_balance(PLAN, letters, ((2, COUNT, B, 0), (-1, COUNT, B, 0), (-1, COUNT, B, 0)), (0, 0))

    def test_cancelled_out_for_one_meter_of_a_set(self):
        letters = closed("a", (2, 4), hidden=1) + closed("b", (3, 6), hidden=1)
        self.assert_balance(PLAN, letters, ((1, SUM, ("a", "b"), 0), (-1, SUM, A, 0)), (-3, 9))
        self.assert_balance(PLAN, letters, ((1, SUM, ("a", "b"), 0), (-2, SUM, A, 0)), (-8, 9))

    def test_the_same_term_twice(self):
        letters = closed("a", (2, 4), (3, 1), hidden=1)
        self.assert_balance(PLAN, letters, ((1, SUM, A, 0), (1, SUM, A, 0)), (2, 18))

    def test_a_value_that_never_counts(self):
        # Values from -9 to -2 with 2 for each reading: at best 0.
        letters = (("close", "n", 0, 0, 0), ("close", "n", 2, 10, 3))
        self.assert_balance(PLAN, letters, ((1, SUM, N, 0), (2, COUNT, N, 0)), (-14, 0))
        self.assert_balance(PLAN, letters, ((1, SUM, N, 0), (1, COUNT, N, 0)), (-16, -1))


class SeveralWindows(Told):
    def test_received_slots_have_the_worth_of_their_window(self):
        letters = closed("a", (2, 4), (9, 1), (10, 5), (25, 3))
        self.assert_balance(PLAN, letters, ((1, SUM, A, 0), (-1, SUM, A, 1), (10, COUNT, A, 2)), (10, 10))
        self.assert_balance(PLAN, letters, ((1, COUNT, A, 0), (-1, COUNT, A, 1), (5, SUM, A, 3)), (1, 1))

    def test_a_run_may_be_in_several_windows(self):
        letters = (("read", "a", 1, 0, 5, 0), ("read", "a", 4, 0, 25, 0), ("close", "a", 4, 40, 4))
        self.assert_balance(PLAN, letters, ((1, COUNT, A, 0), (3, COUNT, A, 1), (2, COUNT, A, 2)), (1 + 2 + 2, 3 + 6))
        # Nowhere is a reading worth nothing.
        self.assert_balance(PLAN, letters, ((1, COUNT, A, 0), (3, COUNT, A, 2)), (4, 10))
        self.assert_balance(PLAN, letters, ((-1, COUNT, A, 0), (-3, COUNT, A, 1), (-2, COUNT, A, 2)), (-9, -5))
        self.assert_balance(PLAN, letters, ((1, SUM, A, 0), (-1, SUM, A, 2)), (-10, 10))
        self.assert_balance(PLAN, letters, ((1, COUNT, A, 0), (-1, COUNT, A, 2)), (-2, 2))
        self.assert_balance(PLAN, letters, ((-1, COUNT, A, 0), (2, COUNT, A, 2)), (-1 - 2 + 2, -1 + 4 + 2))

    def test_a_run_may_be_away_from_all_windows(self):
        # The last limit keeps further slots out of all windows.
        letters = (("close", "a", 2, 25, 2), ("close", "a", 2, 40, 2))
        first = (("close", "a", 0, 5, 0),)
        self.assert_balance(PLAN, letters + first, ((-1, COUNT, A, 0), (-2, COUNT, A, 2)), (-4, 0))
        balance = ((-1, COUNT, A, 0), (-2, COUNT, A, 1), (-1, COUNT, A, 2))
        self.assert_balance(PLAN, letters + first, balance, (-4, -2))
        balance = tuple((-1, COUNT, A, window) for window in range(-5, 3))
        self.assert_balance(PLAN, letters, balance, (-2, 0))
        for stamp, high in ((-60, 0), (-51, 0), (-50, -2), (-49, -2)):
            self.assert_balance(PLAN, letters + (("close", "a", 0, stamp, 0),), balance, (-2, high))

    def test_hidden_versions_go_where_they_are_worth_most(self):
        letters = closed("a", (2, 0), (12, 0), (22, 0), hidden=1)
        self.assert_balance(PLAN, letters, ((1, SUM, A, 0), (3, SUM, A, 1), (2, SUM, A, 2)), (0, 15))
        letters = closed("a", (2, 0), (12, 0), (22, 0), hidden=2)
        self.assert_balance(PLAN, letters, ((1, SUM, A, 0), (3, SUM, A, 1), (2, SUM, A, 2)), (0, 25))
        self.assert_balance(PLAN, letters, ((1, SUM, A, 0), (-3, SUM, A, 1), (2, SUM, A, 2)), (-15, 15))

    def test_hidden_versions_take_back(self):
        letters = closed("a", (2, 5), (12, 4), (22, 3), hidden=2)
        self.assert_balance(PLAN, letters, ((-1, SUM, A, 0), (-1, SUM, A, 1), (-2, SUM, A, 2)), (-20, -4))

    def test_hidden_versions_of_missing_slots(self):
        # Two of the three slots are worth -2 at best, unless they are taken back.
        letters = (("close", "n", 0, 0, 0), ("close", "n", 3, 20, 5))
        self.assert_balance(PLAN, letters, ((1, SUM, N, 0), (1, SUM, N, 1)), (-27, -2))
        self.assert_balance(PLAN, letters, ((1, SUM, N, 0),), (-27, 0))

    def test_each_segment_has_its_own_hidden_versions(self):
        letters = (("read", "a", 1, 0, 2, 0), ("close", "a", 1, 10, 2), ("read", "a", 2, 0, 12, 0), ("close", "a", 2, 20, 3))
        self.assert_balance(PLAN, letters, ((1, SUM, A, 0), (3, SUM, A, 1)), (0, 5))


class Tails(Told):
    def test_without_limit(self):
        letters = closed("a", (2, 4), stamp=15)
        self.assert_balance(PLAN, letters, ((1, SUM, A, 0), (1, SUM, A, 1)), (4, None))
        self.assert_balance(PLAN, letters, ((1, SUM, A, 0), (-1, SUM, A, 1)), (None, 4))
        self.assert_balance(PLAN, letters, ((1, SUM, A, 1), (-1, SUM, A, 2)), (None, None))
        self.assert_balance(PLAN, letters, ((-2, SUM, A, 0),), (-8, -8))

    def test_worths_below_0_and_0(self):
        letters = closed("b", stamp=5) + closed("a", stamp=5) + closed("n", stamp=5) + closed("z", stamp=5)
        self.assert_balance(PLAN, letters, ((1, SUM, B, 0),), (None, None))
        self.assert_balance(PLAN, letters, ((1, SUM, B, 0), (3, COUNT, B, 0)), (0, None))
        self.assert_balance(PLAN, letters, ((1, SUM, B, 0), (-9, COUNT, B, 0)), (None, 0))
        self.assert_balance(PLAN, letters, ((1, SUM, B, 0), (-8, COUNT, B, 0)), (None, None))
        self.assert_balance(PLAN, letters, ((1, SUM, B, 0), (2, COUNT, B, 0)), (None, None))
        self.assert_balance(PLAN, letters, ((1, SUM, N, 0), (2, COUNT, N, 0)), (None, 0))
        self.assert_balance(PLAN, letters, ((1, SUM, N, 0), (9, COUNT, N, 0)), (0, None))
        self.assert_balance(PLAN, letters, ((5, SUM, Z, 0),), (0, 0))
        self.assert_balance(PLAN, letters, ((5, SUM, Z, 0), (-1, COUNT, Z, 0)), (None, 0))

    def test_further_slots_after_the_windows(self):
        letters = closed("a", (2, 4), stamp=20)
        self.assert_balance(PLAN, letters, ((1, SUM, A, 0), (5, SUM, A, 1)), (4, 4))
        self.assert_balance(PLAN, letters, ((1, SUM, A, 0), (5, SUM, A, 2)), (4, None))

    def test_received_slots_of_the_tail(self):
        letters = (("close", "a", 0, 0, 0), ("read", "a", 2, 0, 15, 4), ("read", "a", 3, 1, 30, None))
        self.assert_balance(PLAN, letters, ((1, SUM, A, 0), (3, SUM, A, 1)), (0, 30))
        self.assert_balance(PLAN, letters, ((4, SUM, A, 0), (3, SUM, A, 1), (-1, COUNT, A, 2)), (0, 35))
        self.assert_balance(PLAN, letters, ((4, SUM, A, 0), (3, SUM, A, 1), (-1, COUNT, A, 3)), (None, 35))

    def test_one_meter_without_limit_is_enough(self):
        letters = closed("a", (2, 4)) + closed("b", (3, 2), stamp=9)
        self.assert_balance(PLAN, letters, ((1, SUM, A, 0), (1, COUNT, B, 0)), (5, None))
        self.assert_balance(PLAN, letters, ((1, SUM, A, 0), (-1, COUNT, B, 0)), (None, 3))


class SeveralMeters(Told):
    def test_in_and_out(self):
        letters = closed("a", (2, 4), (3, 1), hidden=1) + closed("b", (4, 3), (5, -1), hidden=1)
        self.assert_balance(PLAN, letters, ((1, SUM, A, 0), (-1, SUM, B, 0)), (-11, 13))

    def test_sets_of_meters_that_overlap(self):
        letters = closed("a", (2, 4), hidden=1) + closed("b", (4, 3)) + closed("n", (5, -4))
        balance = ((1, SUM, ("a", "b"), 0), (2, SUM, ("b", "n"), 0), (-1, COUNT, ("a", "n"), 0))
        self.assert_balance(PLAN, letters, balance, (-1 + 3 + 6 - 8 - 1, 4 + 3 + 6 - 8 - 1))

    def test_meters_that_are_in_no_term_play_no_part(self):
        letters = closed("a", (2, 4)) + reads("b", (3, 3)) + (("close", "n", 4, 9, 7),)
        self.assert_balance(PLAN, letters, ((1, SUM, A, 0), (-1, COUNT, A, 0)), (3, 3))


class ErringClocks(Told):
    def test_one_offset_for_all_windows(self):
        # With each offset one of both is in window 0, or both, or none.
        letters = closed("a", (9, 4), (10, 3))
        self.assert_balance(ERRING, letters, ((1, SUM, A, 0), (1, SUM, A, 1)), (7, 7))
        self.assert_balance(ERRING, letters, ((1, SUM, A, 0), (-1, SUM, A, 1)), (-7, 7))
        self.assert_balance(ERRING, letters, ((1, SUM, A, 0), (-9, COUNT, A, 1)), (-18, 7))
        self.assert_balance(ERRING, letters, ((1, COUNT, A, 0), (1, SUM, A, 1)), (2, 7))

    def test_each_meter_has_its_own_offset(self):
        letters = closed("a", (9, 4)) + closed("b", (10, 6))
        self.assert_balance(ERRING, letters, ((1, SUM, A, 0), (-1, SUM, B, 0)), (-6, 4))
        self.assert_balance(ERRING, letters, ((1, SUM, ("a", "b"), 0), (-1, SUM, ("a", "b"), 1)), (-10, 10))

    def test_further_slots_for_one_offset_alone(self):
        letters = closed("a", (2, 4), stamp=11)
        self.assert_balance(ERRING, letters, ((1, SUM, A, 0),), (4, None))
        self.assert_balance(ERRING, letters + (("clock", "a", -1, 2),), ((1, SUM, A, 0),), (4, 4))


class ManyTerms(Told):
    def test_forty_terms(self):
        letters = closed("a", *[(5 * slot, slot % 6) for slot in range(30)], hidden=3, stamp=500)
        letters += closed("b", *[(7 * slot, slot % 10) for slot in range(20)], stamp=500)
        balance = tuple(
            ((-1) ** window * (window % 5 + 1), SUM if window % 3 else COUNT, (A, B, ("a", "b"))[window % 3], window // 2)
            for window in range(40)
        )
        low, high = told_balance(PLAN, letters, balance)
        self.assertLess(low, high)
        self.assert_balance(PLAN, letters, balance, (low, high))
        # Without hidden versions one value is left.
        letters = tuple(letter for letter in letters if letter[:2] != ("close", "a")) + (("close", "a", 30, 500, 30),)
        found = told_balance(PLAN, letters, balance)
        history = balance_witness(PLAN, letters, balance, "low")
        self.assertEqual(found, (plain_balance(PLAN, history, balance),) * 2)

    def test_very_large_numbers(self):
        plan = (HUGE, (("a", -HUGE, HUGE, 1),))
        letters = closed("a", (HUGE - 1, 3), hidden=1, stamp=9 * HUGE)
        found = told_balance(plan, letters, ((HUGE, SUM, A, 0), (-1, COUNT, A, 1)))
        self.assertTrue(found == (-HUGE * HUGE, HUGE * HUGE))
        found = told_balance(plan, letters, ((HUGE, SUM, A, HUGE),))
        self.assertTrue(found == (None, None))


class Impossible(unittest.TestCase):
    def test_not_possible(self):
        for letters in ([("read", "a", 1, 0, 3, 6)], (("read", "b", 1, 0, 3, 4), ("read", "b", 1, 0, 4, 4))):
            for balance in ((), ((1, SUM, A, 0),), ((1, SUM, A, 0), (2, COUNT, ("a", "z"), 1))):
                assert_raises_only(self, "NotPossible", told_balance, PLAN, letters, balance)
                for end in ("low", "high"):
                    assert_raises_only(self, "NotPossible", balance_witness, PLAN, letters, balance, end)


class Example(Told):
    def test_the_example(self):
        plan = (10, (("a", 0, 5, 0), ("b", 0, 5, 0)))
        letters = [
            ("read", "a", 1, 0, 3, 4), ("close", "a", 1, 10, 1), ("close", "b", 2, 10, 2), ("close", "b", 0, 0, 0),
        ]
        self.assert_balance(plan, letters, ((1, SUM, A, 0), (-1, SUM, B, 0)), (-6, 4))


if __name__ == "__main__":
    unittest.main()
