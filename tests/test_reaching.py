"""Point [43]: the final reach."""

import random

from tests.forms import AGGREGATES, random_history, random_plan, true_letters
from tests.support import HUGE, assert_raises_only
from tests.telling import Told
from toldwhensure.histories import agrees
from toldwhensure.plainly import plain_value
from toldwhensure.reaching import final_reach
from toldwhensure.telling import is_final, told

PLAN = (10, (("a", 0, 5, 0), ("b", -3, 9, 2)))
COUNT, SUM, LOW, MIDDLE = ("count",), ("sum",), ("among", 0, 2), ("rank", 1, 2)


def read(slot, stamp, version=0, value=4, name="a"):
    return ("read", name, slot, version, stamp, value)


def close(slots, stamp, versions, name="a"):
    return ("close", name, slots, stamp, versions)


# Window 0 has the value 4, window 1 two unknown values; from window 4 on all is open.
OPEN_BETWEEN = [read(1, 3), read(2, 12, 0, 5), read(4, 17, 0, 5), close(4, 40, 4)]


class FinalReach(Told):
    def reach(self, letters, aggregate, first, last, meters=("a",), plan=PLAN):
        return self.same_for_each_form(
            lambda bag: final_reach(plan, bag, aggregate, meters, first, last), letters
        )

    def test_the_first_window_is_not_final(self):
        for aggregate in (COUNT, SUM, LOW, MIDDLE):
            for first in (-7, -1, 0, 1, 30):
                self.assertEqual(self.reach([], aggregate, first, first + 3), first - 1)
        self.assertEqual(self.reach(OPEN_BETWEEN, SUM, 1, 3), 0)
        self.assertEqual(self.reach([close(0, -20, 0)], SUM, -2, 3), -3)

    def test_some_are_final(self):
        self.assertEqual(self.reach([read(1, 3), close(1, 30, 1)], SUM, 0, 9), 2)
        self.assertEqual(self.reach([read(1, 3), close(1, 30, 1)], SUM, -9, 9), 2)
        self.assertEqual(self.reach([read(1, 3), close(1, 30, 1)], SUM, 2, 9), 2)
        self.assertEqual(self.reach([read(1, 3), close(1, 30, 1)], SUM, 3, 9), 2)
        self.assertEqual(self.reach([read(1, -33), close(1, -20, 1)], MIDDLE, -8, 9), -3)
        self.assertEqual(self.reach([read(1, 3), close(1, 29, 1)], SUM, 0, 9), 1)

    def test_all_are_final(self):
        self.assertEqual(self.reach([read(1, 3), close(1, 30, 1)], SUM, 0, 2), 2)
        self.assertEqual(self.reach([read(1, 3), close(1, 30, 1)], SUM, -4, 1), 1)
        self.assertEqual(self.reach([close(0, 50, 0)], MIDDLE, -9, 4), 4)

    def test_one_that_is_not_final_between_two_that_are(self):
        self.assertEqual(self.reach(OPEN_BETWEEN, SUM, 0, 3), 0)
        self.assertEqual(self.reach(OPEN_BETWEEN, SUM, 2, 3), 3)
        self.assertEqual(self.reach(OPEN_BETWEEN, COUNT, 0, 3), 3)
        self.assertEqual(self.reach(OPEN_BETWEEN, LOW, 0, 3), 0)
        self.assertEqual(self.reach(OPEN_BETWEEN, MIDDLE, 0, 3), 3)
        self.assertEqual(self.reach(OPEN_BETWEEN, ("rank", 0, 1), 0, 3), 0)

    def test_first_equal_to_last(self):
        for window, reach in ((-1, -1), (0, 0), (1, 0), (2, 2), (3, 3), (4, 3)):
            self.assertEqual(self.reach(OPEN_BETWEEN, SUM, window, window), reach)

    def test_a_log_closed_without_slots(self):
        letters = [close(0, 35, 0)]
        for aggregate in (COUNT, SUM, LOW, MIDDLE, ("rank", 0, 1)):
            self.assertEqual(self.reach(letters, aggregate, 0, 9), 2)
            self.assertEqual(self.reach(letters, aggregate, -400, -1), -1)

    def test_each_aggregate(self):
        # One hidden version may change the reading 5 of window 1, but not that of window 0.
        letters = [read(1, 3), close(1, 10, 1), read(2, 12, 0, 5), close(2, 30, 3)]
        self.assertEqual(self.reach(letters, COUNT, 0, 5), 0)
        self.assertEqual(self.reach(letters, SUM, 0, 5), 0)
        self.assertEqual(self.reach(letters, ("among", 6, 9), 0, 5), 5)
        self.assertEqual(self.reach(letters, ("among", 0, 5), 0, 5), 0)
        self.assertEqual(self.reach(letters, MIDDLE, 0, 5), 0)
        # A missing slot has a value in any case.
        letters = [close(1, 10, 1), close(0, 0, 0), close(1, 30, 1)]
        self.assertEqual(self.reach(letters, COUNT, 0, 5), 2)
        self.assertEqual(self.reach(letters, ("among", 0, 5), 0, 5), 2)
        self.assertEqual(self.reach(letters, ("among", 0, 4), 0, 5), -1)
        self.assertEqual(self.reach(letters, SUM, 0, 5), -1)

    def test_ranks_that_may_have_no_reading_are_not_final(self):
        plan = (10, (("a", 4, 4, 0),))
        letters = [read(1, 3), close(1, 20, 2)]
        self.assertEqual(self.reach(letters, MIDDLE, 0, 1, plan=plan), -1)
        self.assertEqual(self.reach([read(1, 3), close(1, 20, 1)], MIDDLE, 0, 1, plan=plan), 1)

    def test_several_meters(self):
        letters = [read(1, 3), close(1, 30, 1), read(1, 5, name="b"), close(1, 20, 1, "b")]
        self.assertEqual(self.reach(letters, SUM, 0, 9), 2)
        # The clock of b errs by 2, so its further slots may be in window 1.
        self.assertEqual(self.reach(letters, SUM, 0, 9, ("b",)), 0)
        self.assertEqual(self.reach(letters, SUM, 0, 9, ("a", "b")), 0)
        letters.append(("clock", "b", 0, 2))
        self.assertEqual(self.reach(letters, SUM, 0, 9, ("a", "b")), 1)

    def test_behind_the_last_close_letter(self):
        letters = [read(1, 3), close(1, 30, 1), read(3, 55, 0, 1)]
        self.assertEqual(self.reach(letters, SUM, 0, 9), 2)
        self.assertEqual(self.reach(letters, SUM, 4, 9), 3)
        self.assertEqual(self.reach(letters, SUM, 5, 9), 4)
        # No reading there can be above 5.
        self.assertEqual(self.reach(letters, ("among", 6, 7), 4, 9), 9)
        # Slots of the tail that are received leave no place for others before them.
        letters = [read(1, 3), close(1, 30, 1), read(2, 55, 0, 1)]
        self.assertEqual(self.reach(letters, SUM, 0, 9), 4)

    def test_four_hundred_windows(self):
        plan = (3, (("a", 0, 5, 0),))
        letters = [read(slot, 3 * slot) for slot in range(1, 400)] + [close(399, 1200, 399)]
        self.assertEqual(self.reach(letters, SUM, 0, 399, plan=plan), 399)
        self.assertEqual(self.reach(letters, SUM, 1, 400, plan=plan), 399)
        # Without this letter the slot may be in any window from that of the slot before to that of the next one.
        letters.remove(read(301, 903))
        self.assertEqual(self.reach(letters, SUM, 0, 399, plan=plan), 299)
        self.assertEqual(self.reach(letters, SUM, 302, 399, plan=plan), 301)
        self.assertEqual(self.reach(letters, SUM, 303, 399, plan=plan), 399)

    def test_very_large_numbers(self):
        plan = (HUGE, (("a", -HUGE, HUGE, 1),))
        letters = [read(1, HUGE * HUGE + 1, 0, HUGE), close(1, HUGE * (HUGE + 3) + 1, 1)]
        self.assertEqual(self.reach(letters, SUM, HUGE - 1, HUGE + 9, plan=plan), HUGE + 2)
        letters = [read(1, HUGE * HUGE, 0, HUGE), close(1, HUGE * (HUGE + 3) + 1, 1)]
        self.assertEqual(self.reach(letters, SUM, HUGE - 1, HUGE + 9, plan=plan), HUGE - 2)

    def test_not_possible(self):
        for letters in ([read(1, 3, 0, 6)], [close(2, 5, 1)], [("clock", "b", 3, 4)]):
            for meters in (("a",), ("b",), ("a", "b")):
                assert_raises_only(self, "NotPossible", final_reach, PLAN, letters, SUM, meters, 0, 3)

    def test_by_the_words_of_the_point(self):
        choices = random.Random(6)
        for _ in range(150):
            plan = random_plan(choices)
            history = random_history(choices, plan)
            letters = true_letters(choices, history)
            self.assertTrue(agrees(history, letters))
            names = tuple(meter[0] for meter in plan[1])
            meters = choices.choice((names, names[:1]))
            first = choices.randint(-6, 3)
            last = first + choices.randint(0, 7)
            for aggregate in AGGREGATES:
                reach = final_reach(plan, letters, aggregate, meters, first, last)
                self.assertTrue(first - 1 <= reach <= last)
                for window in range(first, reach + 1):
                    answer = told(plan, letters, aggregate, meters, window)
                    self.assertTrue(is_final(aggregate, answer))
                    self.assertIn(plain_value(plan, history, aggregate, meters, window), answer)
                if reach < last:
                    answer = told(plan, letters, aggregate, meters, reach + 1)
                    self.assertFalse(is_final(aggregate, answer))
