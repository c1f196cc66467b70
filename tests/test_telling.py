"""Points [15], [17], [18], [20], [26] and [27]: what is told of counts, sums and ranks, and its witnesses."""

import unittest

from toldwhensure.errors import GatherError
from toldwhensure.telling import is_final, told
from tests.support import HUGE, assert_raises_only
from tests.telling import Told

# Values around 0, from -9 to -2, 0 alone, 4 alone.
PLAN = (10, (("a", 0, 5, 0), ("b", -3, 9, 0), ("n", -9, -2, 0), ("one", 4, 4, 0), ("z", 0, 0, 0)))
ERRING = (10, (("a", 0, 5, 2), ("b", -3, 9, 1)))
COUNT, SUM = ("count",), ("sum",)
LEAST, GREATEST, MIDDLE = ("rank", 0, 1), ("rank", 1, 1), ("rank", 1, 2)


def reads(name, *slots):
    """A "read" letter for each pair of a stamp and a value, for the slots from 1 on."""
    return tuple(
        ("read", name, slot, 0 if value is not None else 1, stamp, value)
        for slot, (stamp, value) in enumerate(slots, start=1)
    )


def closed(name, *slots, hidden=0, stamp=100):
    """A log that was received whole and is closed, but for a number of hidden versions."""
    letters = reads(name, *slots)
    versions = sum([letter[3] + 1 for letter in letters])
    return letters + (("close", name, len(slots), stamp, versions + hidden),)


class TellingInOneWindow(Told):
    """All questions are about window 0, with the times from 0 to 9."""

    plan = PLAN

    def tells(self, letters, meters, *answers, window=0):
        """The answers are pairs of an aggregate and what is told of it."""
        for aggregate, answer in answers:
            self.assert_told(self.plan, letters, aggregate, meters, window, answer)


class NothingIsKnown(TellingInOneWindow):
    def test_counts_and_sums(self):
        for letters in ((), reads("one", (3, 4)), (("clock", "a", 0, 0), ("close", "a", 0, 5, 0))):
            self.tells(letters, ("a",), (COUNT, (0, None)), (SUM, (0, None)))
            self.tells(letters, ("b",), (COUNT, (0, None)), (SUM, (None, None)))
            self.tells(letters, ("n",), (COUNT, (0, None)), (SUM, (None, 0)))
            self.tells(letters, ("z",), (COUNT, (0, None)), (SUM, (0, 0)))

    def test_several_meters(self):
        self.tells((), ("a", "b"), (SUM, (None, None)), (COUNT, (0, None)))
        self.tells((), ("a", "n"), (SUM, (None, None)))
        self.tells((), ("n", "z"), (SUM, (None, 0)))
        self.tells((), ("one", "z"), (SUM, (0, None)))

    def test_among(self):
        self.tells((), ("a",), (("among", 0, 0), (0, None)), (("among", 5, 9), (0, None)), (("among", 6, 9), (0, 0)))
        self.tells((), ("a",), (("among", -9, -1), (0, 0)), (("among", -HUGE, HUGE), (0, None)))
        self.tells((), ("one",), (("among", 4, 4), (0, None)), (("among", 0, 3), (0, 0)), (("among", 5, 5), (0, 0)))
        self.tells((), ("a", "z"), (("among", 3, 4), (0, None)))
        self.tells((), ("n", "z"), (("among", 3, 4), (0, 0)), (("among", -1, -1), (0, 0)))

    def test_ranks(self):
        for aggregate in (LEAST, GREATEST, MIDDLE, ("rank", 7, 20)):
            self.tells((), ("a",), (aggregate, (True, 0, 5)))
            self.tells((), ("a", "n"), (aggregate, (True, -9, 5)))
            self.tells((), ("one",), (aggregate, (True, 4, 4)))
            self.tells((), ("one", "z"), (aggregate, (True, 0, 4)))


class LogsReceivedWhole(TellingInOneWindow):
    LETTERS = closed("a", (0, 4), (3, 4), (5, None), (9, 1), (10, 5)) + closed("b", (-1, 7), (2, -3))

    def test_the_plain_value(self):
        self.tells(self.LETTERS, ("a",), (COUNT, (3, 3)), (SUM, (9, 9)), (("among", 2, 4), (2, 2)))
        self.tells(self.LETTERS, ("a", "b"), (COUNT, (4, 4)), (SUM, (6, 6)), (("among", -3, 1), (2, 2)))
        self.tells(self.LETTERS, ("b",), (SUM, (7, 7)), (LEAST, (False, 7, 7)), window=-1)
        self.tells(self.LETTERS, ("a",), (SUM, (5, 5)), (MIDDLE, (False, 5, 5)), window=1)

    def test_ranks(self):
        for aggregate, value in ((LEAST, 1), (MIDDLE, 4), (GREATEST, 4), (("rank", 9, 20), 1), (("rank", 10, 20), 4)):
            self.tells(self.LETTERS, ("a",), (aggregate, (False, value, value)))
        for aggregate, value in ((LEAST, -3), (("rank", 1, 3), 1), (("rank", 6, 20), -3), (("rank", 7, 20), 1)):
            self.tells(self.LETTERS, ("a", "b"), (aggregate, (False, value, value)))

    def test_no_readings(self):
        for aggregate in (COUNT, SUM, ("among", 0, 9)):
            self.tells(self.LETTERS, ("a", "b"), (aggregate, (0, 0)), window=5)
        for aggregate in (LEAST, GREATEST, ("rank", 3, 7)):
            self.tells(self.LETTERS, ("a", "b"), (aggregate, (True, None, None)), window=5)

    def test_meters_that_are_not_asked_for_play_no_part(self):
        for other in ((), closed("b", (3, 9)), reads("b", (3, 9), (4, 7)), (("close", "b", 3, 50, 9),)):
            self.tells(closed("a", (3, 4)) + other, ("a",), (SUM, (4, 4)), (GREATEST, (False, 4, 4)))


class MissingSlots(TellingInOneWindow):
    SURELY = (("read", "a", 1, 0, 2, 4), ("read", "a", 4, 0, 9, 3), ("close", "a", 4, 20, 4))
    PERHAPS = (("read", "a", 1, 0, 2, 4), ("read", "a", 4, 0, 10, 3), ("close", "a", 4, 20, 4))
    OUTSIDE = (("read", "a", 1, 0, 2, 4), ("read", "a", 2, 0, 10, 3), ("close", "a", 4, 20, 4))

    def test_surely_inside(self):
        self.tells(self.SURELY, ("a",), (COUNT, (4, 4)), (SUM, (7, 17)), (("among", 4, 9), (1, 3)))
        self.tells(self.SURELY, ("a",), (("among", 0, 5), (4, 4)), (("among", 6, 9), (0, 0)), (("among", 1, 3), (1, 3)))
        self.tells(self.SURELY, ("a",), (LEAST, (False, 0, 3)), (GREATEST, (False, 4, 5)), (MIDDLE, (False, 0, 4)))
        self.tells(self.SURELY, ("a",), (("rank", 2, 3), (False, 3, 5)))

    def test_perhaps_inside(self):
        self.tells(self.PERHAPS, ("a",), (COUNT, (1, 3)), (SUM, (4, 14)), (("among", 4, 9), (1, 3)))
        self.tells(self.PERHAPS, ("a",), (("among", 0, 5), (1, 3)), (("among", 0, 3), (0, 2)))
        self.tells(self.PERHAPS, ("a",), (LEAST, (False, 0, 4)), (GREATEST, (False, 4, 5)), (MIDDLE, (False, 0, 5)))
        self.tells(self.PERHAPS, ("a",), (("rank", 2, 3), (False, 0, 5)))

    def test_outside(self):
        self.tells(self.OUTSIDE, ("a",), (COUNT, (1, 1)), (SUM, (4, 4)), (MIDDLE, (False, 4, 4)))
        self.tells(self.OUTSIDE, ("a",), (COUNT, (3, 3)), (SUM, (3, 13)), window=1)

    def test_nothing_received(self):
        letters = (("close", "a", 0, 0, 0), ("close", "a", 3, 10, 3))
        self.tells(letters, ("a",), (COUNT, (3, 3)), (SUM, (0, 15)), (GREATEST, (False, 0, 5)))
        letters = (("close", "a", 3, 10, 3),)
        self.tells(letters, ("a",), (COUNT, (0, 3)), (SUM, (0, 15)), (GREATEST, (True, 0, 5)))
        self.tells(letters, ("a",), (COUNT, (0, None)), (GREATEST, (True, 0, 5)), window=1)
        self.tells(letters, ("a",), (COUNT, (0, 3)), (SUM, (0, 15)), window=-HUGE)

    def test_values_of_the_meter(self):
        for name, least, most, low, high in (("b", -6, 18, -3, 9), ("n", -18, -4, -9, -2), ("one", 8, 8, 4, 4), ("z", 0, 0, 0, 0)):
            letters = (("close", name, 0, 0, 0), ("close", name, 2, 10, 2))
            self.tells(letters, (name,), (COUNT, (2, 2)), (SUM, (least, most)), (MIDDLE, (False, low, high)))
            letters = (("close", name, 2, 10, 2),)
            self.tells(letters, (name,), (SUM, (min(least, 0), max(most, 0))), (MIDDLE, (True, low, high)))


class HiddenVersions(TellingInOneWindow):
    def test_one_changes_a_value(self):
        letters = closed("a", (2, 4), (3, 2), hidden=1)
        self.tells(letters, ("a",), (COUNT, (1, 2)), (SUM, (2, 9)), (("among", 3, 9), (0, 2)), (("among", 0, 9), (1, 2)))
        self.tells(letters, ("a",), (LEAST, (False, 0, 4)), (GREATEST, (False, 2, 5)), (MIDDLE, (False, 0, 4)))

    def test_one_for_other_ranges_of_values(self):
        letters = closed("b", (2, 4), (3, 2), hidden=1)
        self.tells(letters, ("b",), (COUNT, (1, 2)), (SUM, (-1, 13)), (GREATEST, (False, 2, 9)))
        letters = closed("n", (2, -4), (3, -2), hidden=1)
        self.tells(letters, ("n",), (COUNT, (1, 2)), (SUM, (-13, -2)), (LEAST, (False, -9, -2)))
        letters = closed("one", (2, 4), (3, 4), hidden=1)
        self.tells(letters, ("one",), (COUNT, (1, 2)), (SUM, (4, 8)), (LEAST, (False, 4, 4)))
        letters = closed("z", (2, 0), (3, 0), hidden=1)
        self.tells(letters, ("z",), (COUNT, (1, 2)), (SUM, (0, 0)), (LEAST, (False, 0, 0)))

    def test_one_changes_a_void(self):
        letters = closed("a", (2, 4), (3, None), hidden=1)
        self.tells(letters, ("a",), (COUNT, (0, 2)), (SUM, (0, 9)), (("among", 5, 9), (0, 1)), (("among", 4, 9), (0, 2)))
        self.tells(letters, ("a",), (LEAST, (True, 0, 5)), (GREATEST, (True, 0, 5)), (MIDDLE, (True, 0, 5)))
        letters = closed("a", (3, None), hidden=1)
        self.tells(letters, ("a",), (COUNT, (0, 1)), (SUM, (0, 5)), (LEAST, (True, 0, 5)), (GREATEST, (True, 0, 5)))

    def test_one_takes_a_sure_reading_back(self):
        letters = (("close", "a", 0, 0, 0), ("close", "a", 2, 10, 3))
        self.tells(letters, ("a",), (COUNT, (1, 2)), (SUM, (0, 10)), (("among", 0, 9), (1, 2)), (MIDDLE, (False, 0, 5)))
        letters = (("close", "n", 0, 0, 0), ("close", "n", 2, 10, 3))
        self.tells(letters, ("n",), (COUNT, (1, 2)), (SUM, (-18, -2)), (MIDDLE, (False, -9, -2)))

    def test_one_for_a_slot_that_is_perhaps_inside(self):
        letters = (("close", "n", 2, 10, 3),)
        self.tells(letters, ("n",), (COUNT, (0, 2)), (SUM, (-18, 0)), (MIDDLE, (True, -9, -2)))

    def test_as_many_as_slots_and_more(self):
        for hidden in (2, 3, 40):
            letters = closed("a", (2, 4), (3, 2), hidden=hidden)
            self.tells(letters, ("a",), (COUNT, (0, 2)), (SUM, (0, 10)), (("among", 1, 1), (0, 2)))
            self.tells(letters, ("a",), (LEAST, (True, 0, 5)), (GREATEST, (True, 0, 5)))

    def test_those_outside_the_window_change_nothing(self):
        letters = closed("a", (2, 4), stamp=12) + (("close", "a", 3, 40, 9),)
        self.tells(letters, ("a",), (COUNT, (1, 1)), (SUM, (4, 4)))

    def test_a_segment_does_not_lend_any(self):
        letters = (("read", "a", 1, 0, 2, 4), ("read", "a", 2, 0, 6, 3), ("close", "a", 1, 5, 1), ("close", "a", 2, 20, 5))
        self.tells(letters, ("a",), (COUNT, (1, 2)), (SUM, (4, 9)), (LEAST, (False, 0, 4)), (GREATEST, (False, 4, 5)))

    def test_the_best_ones_are_changed(self):
        letters = closed("b", (1, -2), (2, 9), (3, None), (4, 0), (5, 3), hidden=2)
        self.tells(letters, ("b",), (COUNT, (2, 5)), (SUM, (-8, 30)), (("among", 4, 9), (0, 3)))
        letters = closed("b", (1, -2), (2, 9), (3, None), (4, 0), (5, 3), hidden=3)
        self.tells(letters, ("b",), (COUNT, (1, 5)), (SUM, (-11, 39)), (("among", 4, 9), (0, 4)))

    def test_ranks_move(self):
        letters = closed("a", (1, 1), (2, 2), (3, 3), (4, 4), (5, 5), hidden=1)
        self.tells(letters, ("a",), (MIDDLE, (False, 2, 4)), (LEAST, (False, 0, 2)), (GREATEST, (False, 4, 5)))
        self.tells(letters, ("a",), (("rank", 3, 4), (False, 3, 5)), (("rank", 1, 4), (False, 1, 3)))
        letters = closed("a", (1, 1), (2, 2), (3, 3), (4, 4), (5, 5), hidden=2)
        self.tells(letters, ("a",), (MIDDLE, (False, 1, 5)), (("rank", 3, 4), (False, 2, 5)))

    def test_a_rank_whose_one_reading_was_a_void(self):
        # Beside the void there is nothing that could be changed without a loss.
        for letters in (closed("a", (1, None), hidden=1), closed("a", (1, None), (1, None), hidden=1)):
            for aggregate in (LEAST, GREATEST, ("rank", 19, 20)):
                self.tells(letters, ("a",), (aggregate, (True, 0, 5)))


class Tails(TellingInOneWindow):
    def test_any_number_of_further_slots(self):
        letters = reads("a", (2, 4))
        self.tells(letters, ("a",), (COUNT, (0, None)), (SUM, (0, None)), (MIDDLE, (True, 0, 5)))
        letters = closed("a", (2, 4), stamp=9)
        self.tells(letters, ("a",), (COUNT, (1, None)), (SUM, (4, None)), (LEAST, (False, 0, 4)), (GREATEST, (False, 4, 5)))
        self.tells(letters, ("a",), (MIDDLE, (False, 0, 5)), (("among", 6, 7), (0, 0)), (("among", 5, 7), (0, None)))

    def test_further_slots_of_other_meters(self):
        letters = closed("b", (2, 4), stamp=9)
        self.tells(letters, ("b",), (COUNT, (1, None)), (SUM, (None, None)))
        letters = closed("n", (2, -4), stamp=9)
        self.tells(letters, ("n",), (COUNT, (1, None)), (SUM, (None, -4)))
        letters = closed("z", (2, 0), stamp=9)
        self.tells(letters, ("z",), (COUNT, (1, None)), (SUM, (0, 0)), (MIDDLE, (False, 0, 0)))
        letters = closed("one", (2, 4), stamp=9)
        self.tells(letters, ("one",), (COUNT, (1, None)), (SUM, (4, None)), (MIDDLE, (False, 4, 4)))

    def test_no_further_slots(self):
        letters = closed("a", (2, 4), stamp=10)
        self.tells(letters, ("a",), (COUNT, (1, 1)), (SUM, (4, 4)), (MIDDLE, (False, 4, 4)))
        letters = (("close", "a", 0, 10, 0),)
        self.tells(letters, ("a",), (COUNT, (0, 0)), (SUM, (0, 0)), (MIDDLE, (True, None, None)))

    def test_received_slots_of_the_tail(self):
        letters = (("close", "a", 0, 2, 0),) + reads("a", (2, 4), (12, 3))
        self.tells(letters, ("a",), (COUNT, (0, 1)), (SUM, (0, 5)), (MIDDLE, (True, 0, 5)), (("among", 4, 4), (0, 1)))
        letters = (("close", "a", 0, 2, 0),) + reads("a", (2, 4), (3, None), (12, 3))
        self.tells(letters, ("a",), (COUNT, (0, 2)), (SUM, (0, 10)), (MIDDLE, (True, 0, 5)))

    def test_runs_of_the_tail(self):
        letters = (("close", "a", 0, 2, 0), ("read", "a", 3, 0, 12, 3))
        self.tells(letters, ("a",), (COUNT, (0, 2)), (SUM, (0, 10)), (MIDDLE, (True, 0, 5)))
        letters = (("close", "n", 0, 2, 0), ("read", "n", 3, 0, 9, -3), ("read", "n", 4, 0, 10, -3))
        self.tells(letters, ("n",), (COUNT, (0, 3)), (SUM, (-27, 0)), (MIDDLE, (True, -9, -2)))

    def test_ranks_with_any_number_of_readings(self):
        letters = closed("a", *[(2, 3)] * 40, stamp=9)
        self.tells(letters, ("a",), (("rank", 1, 20), (False, 0, 5)), (("rank", 19, 20), (False, 0, 5)))
        self.tells(letters, ("a",), (LEAST, (False, 0, 3)), (GREATEST, (False, 3, 5)))


class RanksOfReadings(TellingInOneWindow):
    def test_the_number_of_readings_moves_the_index(self):
        # Between two and four readings, two of which are 1 and 4.
        letters = (("read", "a", 1, 0, 2, 1), ("read", "a", 2, 0, 3, 4), ("read", "a", 5, 0, 10, 0), ("close", "a", 5, 20, 5))
        self.tells(letters, ("a",), (LEAST, (False, 0, 1)), (GREATEST, (False, 4, 5)), (MIDDLE, (False, 0, 4)))
        self.tells(letters, ("a",), (("rank", 1, 3), (False, 0, 4)), (("rank", 2, 3), (False, 1, 5)))
        self.tells(letters, ("a",), (("rank", 6, 20), (False, 0, 1)), (("rank", 19, 20), (False, 1, 5)))

    def test_only_values_of_one_meter_fit(self):
        letters = closed("a", (2, 3)) + (("close", "n", 0, 0, 0), ("close", "n", 2, 10, 2))
        self.tells(letters, ("a", "n"), (LEAST, (False, -9, -2)), (GREATEST, (False, 3, 3)), (MIDDLE, (False, -9, -2)))
        letters = closed("a", (2, 3)) + (("close", "n", 2, 10, 2),)
        self.tells(letters, ("a", "n"), (LEAST, (False, -9, 3)), (GREATEST, (False, 3, 3)), (MIDDLE, (False, -9, 3)))

    def test_very_large_values(self):
        plan = (HUGE, (("a", -HUGE, HUGE, 1),))
        letters = closed("a", (2, 3), (HUGE // 2, HUGE), hidden=1, stamp=5 * HUGE)
        for aggregate, answer in ((LEAST, (False, -HUGE, HUGE)), (GREATEST, (False, 3, HUGE)), (SUM, (3 - HUGE, 2 * HUGE))):
            self.assert_told(plan, letters, aggregate, ("a",), 0, answer)
        letters = closed("a", (HUGE * 7 - 1, -HUGE), stamp=9 * HUGE)
        self.assert_told(plan, letters, SUM, ("a",), 6, (-HUGE, 0))
        self.assert_told(plan, letters, SUM, ("a",), 7, (-HUGE, 0))


class RanksNeedReadings(TellingInOneWindow):
    plan = ERRING

    def test_a_void_is_no_reading(self):
        letters = closed("a", (2, None)) + closed("b", (9, 4))
        for aggregate in (LEAST, GREATEST, MIDDLE, ("rank", 19, 20)):
            self.tells(letters, ("a", "b"), (aggregate, (True, 4, 4)))
        letters = closed("a", (2, None), hidden=1) + closed("b", (9, 4))
        self.tells(letters, ("a", "b"), (MIDDLE, (True, 0, 5)), (GREATEST, (True, 0, 5)), (LEAST, (True, 0, 5)))

    def test_a_slot_outside_needs_no_hidden_version(self):
        letters = closed("b", (2, 4), (15, None), (28, 4), hidden=1)
        for aggregate in (LEAST, GREATEST, MIDDLE):
            self.tells(letters, ("b",), (aggregate, (True, -3, 9)), window=1)

    def test_further_readings_make_up_for_those_of_all_meters(self):
        letters = closed("a", (2, 0), (3, 0), stamp=9) + closed("b", (2, -3), (3, -3), (4, -3))
        self.tells(letters, ("a", "b"), (("rank", 1, 4), (False, -3, 5)), (("rank", 7, 20), (False, -3, 5)))
        letters = closed("a", (2, 5), (3, 5), stamp=9) + closed("b", (2, 9), (3, 9), (4, 9))
        self.tells(letters, ("a", "b"), (("rank", 3, 4), (False, 0, 9)), (("rank", 19, 20), (False, 0, 9)))

    def test_further_readings_have_times_in_the_window(self):
        for offset in (-2, -1, 0, 1, 2):
            letters = (("clock", "a", offset, offset),)
            for window in (-1, 0, 1):
                self.tells(letters, ("a",), (MIDDLE, (True, 0, 5)), (GREATEST, (True, 0, 5)), window=window)
            letters += reads("a", (9 - offset, 3))
            self.tells(letters, ("a",), (MIDDLE, (True, 0, 5)), (LEAST, (True, 0, 5)))
            self.tells(letters, ("a",), (MIDDLE, (True, 0, 5)), (LEAST, (True, 0, 5)), window=1)


class ErringClocks(TellingInOneWindow):
    plan = ERRING

    def test_a_slot_in_one_of_two_windows(self):
        letters = closed("a", (9, 4))
        self.tells(letters, ("a",), (COUNT, (0, 1)), (SUM, (0, 4)), (MIDDLE, (True, 4, 4)), (("among", 0, 3), (0, 0)))
        self.tells(letters, ("a",), (COUNT, (0, 1)), (SUM, (0, 4)), (MIDDLE, (True, 4, 4)), window=1)
        self.tells(letters + (("clock", "a", -5, 0),), ("a",), (COUNT, (1, 1)), (MIDDLE, (False, 4, 4)))
        self.tells(letters + (("clock", "a", 1, 2),), ("a",), (COUNT, (0, 0)), (MIDDLE, (True, None, None)))

    def test_each_offset_has_another_answer(self):
        letters = closed("a", (7, 5), (8, 0), (9, 1), (10, 4), (11, 3))
        self.tells(letters, ("a",), (COUNT, (1, 5)), (SUM, (5, 13)), (("among", 3, 9), (1, 3)))
        self.tells(letters, ("a",), (MIDDLE, (False, 0, 5)), (LEAST, (False, 0, 5)), (GREATEST, (False, 5, 5)))
        self.tells(letters + (("clock", "a", -1, 1),), ("a",), (MIDDLE, (False, 0, 1)), (COUNT, (2, 4)))

    def test_the_best_offset_is_between(self):
        letters = closed("b", (9, 9), (10, -3), stamp=20)
        self.tells(letters, ("b",), (COUNT, (0, 2)), (SUM, (0, 9)), (LEAST, (True, -3, 9)), (GREATEST, (True, 9, 9)))

    def test_each_meter_has_its_own_offset(self):
        letters = closed("a", (9, 4)) + closed("b", (10, -2))
        self.tells(letters, ("a", "b"), (COUNT, (0, 2)), (SUM, (-2, 4)), (MIDDLE, (True, -2, 4)))
        self.tells(letters, ("a", "b"), (LEAST, (True, -2, 4)), (GREATEST, (True, -2, 4)))
        letters += (("clock", "a", 0, 0),)
        self.tells(letters, ("a", "b"), (COUNT, (1, 2)), (SUM, (2, 4)), (LEAST, (False, -2, 4)), (GREATEST, (False, 4, 4)))

    def test_a_reading_may_need_an_offset_that_is_not_the_best(self):
        # Either no reading, or a small one beside a large one.
        letters = closed("a", (11, 1), (11, 5)) + (("clock", "a", -2, -1),)
        self.tells(letters, ("a",), (COUNT, (0, 2)), (LEAST, (True, 1, 1)), (GREATEST, (True, 5, 5)))
        self.tells(letters, ("a",), (("rank", 19, 20), (True, 1, 1)), (MIDDLE, (True, 1, 1)))
        letters = closed("a", (11, 1), (11, 5), (11, 5), (11, 5)) + (("clock", "a", -2, -1),)
        self.tells(letters, ("a",), (("rank", 19, 20), (True, 5, 5)), (("rank", 1, 3), (True, 5, 5)))
        self.tells(letters, ("a",), (("rank", 6, 20), (True, 1, 1)))

    def test_ranks_of_several_meters_with_their_own_offsets(self):
        letters = closed("a", (9, 4), (9, 5)) + closed("b", (9, 0), (10, -2), (10, 8))
        self.tells(letters, ("a", "b"), (LEAST, (True, -2, 4)), (GREATEST, (True, 0, 8)), (MIDDLE, (True, 0, 4)))
        letters += (("clock", "b", -1, -1),)
        self.tells(letters, ("a", "b"), (MIDDLE, (False, 0, 4)), (("rank", 3, 4), (False, 0, 5)))

    def test_missing_slots_and_offsets(self):
        letters = (("read", "a", 1, 0, 8, 4), ("read", "a", 3, 0, 9, 3), ("close", "a", 3, 20, 3))
        self.tells(letters, ("a",), (COUNT, (0, 3)), (SUM, (0, 12)), (GREATEST, (True, 4, 5)), (LEAST, (True, 0, 4)))
        letters += (("clock", "a", 1, 1),)
        self.tells(letters, ("a",), (COUNT, (1, 2)), (SUM, (4, 9)), (GREATEST, (False, 4, 5)), (LEAST, (False, 0, 4)))

    def test_further_slots_for_one_offset_alone(self):
        letters = closed("a", (2, 4), stamp=11)
        self.tells(letters, ("a",), (COUNT, (1, None)), (SUM, (4, None)))
        self.tells(letters + (("clock", "a", -1, 2),), ("a",), (COUNT, (1, 1)), (SUM, (4, 4)))
        letters = closed("a", (2, 4), stamp=12)
        self.tells(letters, ("a",), (COUNT, (1, 1)), (SUM, (4, 4)))

    def test_a_rank_with_further_slots_for_one_offset_alone(self):
        letters = closed("a", (2, 4), stamp=11)
        self.tells(letters, ("a",), (LEAST, (False, 0, 4)), (GREATEST, (False, 4, 5)), (MIDDLE, (False, 0, 5)))
        letters = closed("a", stamp=11)
        self.tells(letters, ("a",), (LEAST, (True, 0, 5)), (GREATEST, (True, 0, 5)), (MIDDLE, (True, 0, 5)))


class Impossible(unittest.TestCase):
    LETTERS = (("read", "b", 1, 0, 3, 4), ("read", "b", 1, 0, 3, 5))

    def test_not_possible(self):
        letters = [("read", "a", 1, 0, 3, 6)]
        for aggregate in (COUNT, SUM, ("among", 0, 3), MIDDLE):
            assert_raises_only(self, "NotPossible", told, PLAN, letters, aggregate, ("a",), 0)
            assert_raises_only(self, "NotPossible", told, PLAN, tuple(letters), aggregate, ("a",), 0)

    def test_letters_about_a_meter_that_is_not_asked_for(self):
        for aggregate in (COUNT, SUM, ("among", 0, 3), MIDDLE):
            for bag in (self.LETTERS, closed("a", (3, 4)) + self.LETTERS):
                error = assert_raises_only(self, "NotPossible", told, PLAN, bag, aggregate, ("a",), 0)
                self.assertIsInstance(error, GatherError)

    def test_very_large_numbers(self):
        letters = [("read", "a", 1, 0, HUGE, HUGE)]
        assert_raises_only(self, "NotPossible", told, PLAN, letters, COUNT, ("a",), HUGE)


class Final(unittest.TestCase):
    def test_counts_sums_and_among(self):
        for aggregate in (COUNT, SUM, ("among", 2, 3)):
            for answer in ((0, 0), (5, 5), (HUGE, HUGE)):
                self.assertIs(is_final(aggregate, answer), True)
            for answer in ((0, 1), (0, None), (None, 0), (None, None), (-5, 5), (HUGE, HUGE + 1)):
                self.assertIs(is_final(aggregate, answer), False)
        self.assertIs(is_final(SUM, (-7, -7)), True)
        self.assertIs(is_final(SUM, (-7, -6)), False)

    def test_ranks(self):
        for aggregate in (LEAST, MIDDLE, ("rank", 20, 20)):
            self.assertIs(is_final(aggregate, (True, None, None)), True)
            for value in (0, 5, -HUGE):
                self.assertIs(is_final(aggregate, (False, value, value)), True)
                self.assertIs(is_final(aggregate, (True, value, value)), False)
                self.assertIs(is_final(aggregate, (False, value, value + 1)), False)
                self.assertIs(is_final(aggregate, (True, value, value + 1)), False)


class Examples(Told):
    PLAN = (10, (("a", 0, 5, 0),))

    def test_a_sum(self):
        letters = [("read", "a", 1, 0, 3, 4), ("read", "a", 4, 1, 12, None), ("close", "a", 4, 15, 6)]
        self.assert_told(self.PLAN, letters, SUM, ("a",), 0, (0, 15))

    def test_a_rank(self):
        letters = [("read", "a", 1, 0, 3, 4), ("close", "a", 0, 0, 0), ("close", "a", 1, 10, 1)]
        self.assert_told(self.PLAN, letters, MIDDLE, ("a",), 0, (False, 4, 4))


if __name__ == "__main__":
    unittest.main()
