"""Points [20] to [25]: offsets, segments, runs, and what is inside a window."""

import copy
import unittest

from toldwhensure.possible import is_possible
from toldwhensure.segments import inside, offsets_left, runs_of, segments_of
from tests.support import HUGE

PLAN = (10, (("a", 0, 5, 2), ("b", -3, 9, 0)))
OTHERS = (
    ("read", "b", 1, 0, 3, 4), ("read", "b", 3, 0, 5, 4), ("close", "b", 0, 2, 0), ("close", "b", 4, 9, 7),
    ("clock", "b", 0, 0),
)
NOTHING = ((), 0, 0, 0)


def read(slot, stamp, version=0, value=1):
    return ("read", "a", slot, version, stamp, value)


def close(slots, stamp, versions):
    return ("close", "a", slots, stamp, versions)


class Answers(unittest.TestCase):
    def answer(self, call, letters, *arguments, plan=PLAN):
        """The answer of the call, which no order, no duplicate and no letter about another meter changes."""
        letters = list(letters)
        before = copy.deepcopy(letters)
        self.assertTrue(is_possible(plan, letters))
        found = call(plan, letters, "a", *arguments)
        self.assertEqual(letters, before)
        self.assertEqual(call(plan, tuple(letters), "a", *arguments), found)
        self.assertEqual(call(plan, letters[::-1], "a", *arguments), found)
        self.assertEqual(call(plan, letters + letters, "a", *arguments), found)
        if plan == PLAN:
            self.assertEqual(call(plan, OTHERS[:2] + tuple(letters) + OTHERS[2:], "a", *arguments), found)
        self.assertIs(found.__class__, tuple)
        return found


class Offsets(Answers):
    def left(self, *clocks):
        return self.answer(offsets_left, [("clock", "a", low, high) for low, high in clocks])

    def test_without_letters(self):
        self.assertEqual(self.left(), (-2, 2))
        self.assertEqual(offsets_left(PLAN, [read(1, 3), close(1, 9, 1)], "a"), (-2, 2))
        self.assertEqual(offsets_left(PLAN, [("clock", "a", 1, 1)], "b"), (0, 0))

    def test_several_letters(self):
        self.assertEqual(self.left((-1, 2)), (-1, 2))
        self.assertEqual(self.left((-1, 2), (-2, 1)), (-1, 1))
        self.assertEqual(self.left((-1, 2), (0, 2), (-2, 1)), (0, 1))

    def test_wider_than_the_bound(self):
        self.assertEqual(self.left((-9, 9)), (-2, 2))
        self.assertEqual(self.left((-9, 1)), (-2, 1))
        self.assertEqual(self.left((-1, HUGE)), (-1, 2))

    def test_one_offset_alone(self):
        self.assertEqual(self.left((1, 1)), (1, 1))
        self.assertEqual(self.left((-2, -1), (-1, 2)), (-1, -1))
        self.assertEqual(self.left((2, 70)), (2, 2))
        self.assertEqual(self.left((-70, -2)), (-2, -2))


class Segments(Answers):
    def segments(self, *letters):
        return self.answer(segments_of, letters)

    def test_without_close_letters(self):
        self.assertEqual(self.segments(), ((1, None, None),))
        self.assertEqual(self.segments(read(4, 3, 2, 5)), ((1, None, None),))

    def test_one_number(self):
        self.assertEqual(self.segments(close(4, 9, 4)), ((1, 4, 0), (5, None, None)))
        self.assertEqual(self.segments(close(4, 9, 7)), ((1, 4, 3), (5, None, None)))
        self.assertEqual(self.segments(close(1, 9, 1)), ((1, 1, 0), (2, None, None)))

    def test_several_numbers(self):
        letters = (close(7, 30, 15), close(1, 5, 2), close(3, 9, 4))
        self.assertEqual(self.segments(*letters), ((1, 1, 1), (2, 3, 0), (4, 7, 7), (8, None, None)))
        letters = (close(9, 30, 9), close(10, 31, 10), close(100, 50, 100))
        self.assertEqual(self.segments(*letters), ((1, 9, 0), (10, 10, 0), (11, 100, 0), (101, None, None)))

    def test_0_cuts_nothing(self):
        self.assertEqual(self.segments(close(0, 2, 0)), ((1, None, None),))
        self.assertEqual(self.segments(close(0, 2, 0), close(3, 9, 4)), ((1, 3, 1), (4, None, None)))

    def test_the_same_number_with_other_stamps(self):
        self.assertEqual(self.segments(close(3, 9, 4), close(3, 12, 4)), ((1, 3, 1), (4, None, None)))

    def test_hidden_versions_with_received_slots(self):
        none = (close(3, 9, 7),)
        self.assertEqual(self.segments(*none)[0], (1, 3, 4))
        some = none + (read(2, 3, 2, None),)
        self.assertEqual(self.segments(*some)[0], (1, 3, 2))
        most = some + (read(1, 3, 1, 4),)
        self.assertEqual(self.segments(*most)[0], (1, 3, 1))
        full = most + (read(3, 3, 1, 4),)
        self.assertEqual(self.segments(*full)[0], (1, 3, 0))

    def test_several_versions_of_one_slot(self):
        letters = (close(3, 9, 7), read(2, 3, 2, None), read(2, 3, 0, 1), read(2, 3, 1, 4))
        self.assertEqual(self.segments(*letters)[0], (1, 3, 2))
        letters = (close(3, 9, 7), read(2, 3, 0, 1), read(2, 3, 1, 4))
        self.assertEqual(self.segments(*letters)[0], (1, 3, 3))

    def test_received_slots_of_other_segments(self):
        letters = (close(2, 9, 5), close(4, 20, 9), read(2, 3, 2, 1), read(3, 9, 1, 1), read(5, 30, 9, 1))
        self.assertEqual(self.segments(*letters), ((1, 2, 1), (3, 4, 1), (5, None, None)))


class Runs(Answers):
    def runs(self, *letters):
        return self.answer(runs_of, letters)

    def test_no_missing_slots(self):
        self.assertEqual(self.runs(), ())
        self.assertEqual(self.runs(read(1, 3), read(2, 4)), ())
        self.assertEqual(self.runs(read(1, 3), read(2, 4), close(2, 9, 2)), ())
        self.assertEqual(self.runs(read(1, 3), close(1, 4, 1), read(2, 4)), ())

    def test_places_in_a_segment(self):
        limits = (close(0, 2, 0), close(6, 20, 6))
        self.assertEqual(self.runs(*limits), ((1, 6, 2, 19),))
        self.assertEqual(self.runs(*limits, read(3, 7)), ((1, 2, 2, 7), (4, 6, 7, 19)))
        self.assertEqual(self.runs(*limits, read(1, 5), read(4, 8), read(6, 8)), ((2, 3, 5, 8), (5, 5, 8, 8)))
        self.assertEqual(self.runs(*limits, read(1, 5), read(2, 6)), ((3, 6, 6, 19),))
        self.assertEqual(self.runs(*limits, read(5, 5), read(6, 6)), ((1, 4, 2, 5),))

    def test_runs_on_both_sides_of_a_limit(self):
        limits = (close(2, 10, 2), close(2, 13, 2), close(4, 20, 4), close(4, 22, 4))
        self.assertEqual(self.runs(*limits), ((1, 2, None, 9), (3, 4, 13, 19)))
        self.assertEqual(
            self.runs(*limits, read(1, 3), read(6, 25)), ((2, 2, 3, 9), (3, 4, 13, 19), (5, 5, 22, 25))
        )

    def test_stamps_of_received_slots_of_another_segment_are_no_limits(self):
        limits = (close(2, 10, 2), close(3, 20, 3))
        self.assertEqual(self.runs(*limits, read(2, 5), read(4, 30)), ((1, 1, None, 5), (3, 3, 10, 19)))

    def test_the_tail_without_received_slots(self):
        self.assertEqual(self.runs(close(0, 2, 0)), ())
        self.assertEqual(self.runs(close(1, 9, 1), read(1, 3)), ())

    def test_the_tail_with_received_slots(self):
        self.assertEqual(self.runs(read(3, 7)), ((1, 2, None, 7),))
        self.assertEqual(self.runs(read(3, 7), read(4, 7), read(6, 9)), ((1, 2, None, 7), (5, 5, 7, 9)))
        self.assertEqual(self.runs(read(3, 7), close(0, 2, 0)), ((1, 2, 2, 7),))
        self.assertEqual(self.runs(close(2, 9, 2), close(2, 10, 2), read(5, 12)), ((1, 2, None, 8), (3, 4, 10, 12)))

    def test_very_large_stamps(self):
        self.assertEqual(self.runs(close(2, HUGE, 2), read(4, HUGE)), ((1, 2, None, HUGE - 1), (3, 3, HUGE, HUGE)))
        self.assertEqual(self.runs(close(0, -HUGE, 0), read(2, HUGE)), ((1, 1, -HUGE, HUGE),))


class Inside(Answers):
    def inside(self, letters, offset, window, plan=PLAN):
        parts, more = self.answer(inside, letters, offset, window, plan=plan)
        self.assertIs(more.__class__, bool)
        for part in parts:
            self.assertIs(part.__class__, tuple)
            self.assertIs(part[0].__class__, tuple)
        return parts, more

    def test_nothing_is_known(self):
        for window in (-5, 0, 5, HUGE):
            self.assertEqual(self.inside((), 0, window), ((((), 0, 0, 0, None),), True))

    def test_values_in_ascending_order(self):
        letters = (read(1, 3, 0, 4), read(2, 4, 1, 2), read(2, 4, 0, 5), read(3, 5, 0, 4), read(4, 9, 0, 0),
                   read(5, 10, 0, 3), close(6, 30, 7))
        self.assertEqual(self.inside(letters, 0, 0), ((((0, 2, 4, 4), 0, 0, 0, 0), NOTHING + (None,)), False))
        self.assertEqual(self.inside(letters, 0, 1), ((((3,), 0, 0, 1, 0), NOTHING + (None,)), False))

    def test_voids(self):
        letters = (read(1, 3, 1, None), read(2, 4, 4, None), read(2, 4, 0, 5), read(3, 5, 0, 4), read(4, 11, 1, None))
        self.assertEqual(self.inside(letters, 0, 0), ((((4,), 2, 0, 0, None),), False))
        self.assertEqual(self.inside(letters, 0, 1), ((((), 1, 0, 0, None),), True))

    def test_the_edges_of_the_window_for_received_slots(self):
        for stamp, offset, window in ((0, 0, 0), (9, 0, 0), (8, 1, 0), (2, -2, 0), (-1, 0, -1), (-10, 0, -1), (0, -2, -1)):
            letters = (read(1, stamp, 0, 4), close(1, 99, 1))
            for other in (window - 1, window, window + 1):
                part = (((4,), 0, 0, 0, 0) if other == window else NOTHING + (0,))
                self.assertEqual(self.inside(letters, offset, other)[0][0], part)

    def run_inside(self, least, greatest, offset, window):
        """The numbers of sure and of other missing slots of a run of two slots between these stamps."""
        letters = (read(1, least), read(4, greatest), close(4, greatest + 1, 4))
        values, voids, sure, maybe, hidden = self.inside(letters, offset, window)[0][0]
        self.assertEqual((voids, hidden), (0, 0))
        return sure, maybe

    def test_runs_at_the_edges_of_the_window(self):
        self.assertEqual(self.run_inside(10, 19, 0, 1), (2, 0))
        self.assertEqual(self.run_inside(9, 19, 0, 1), (0, 2))
        self.assertEqual(self.run_inside(10, 20, 0, 1), (0, 2))
        self.assertEqual(self.run_inside(0, 9, 0, 1), (0, 0))
        self.assertEqual(self.run_inside(0, 10, 0, 1), (0, 2))
        self.assertEqual(self.run_inside(20, 29, 0, 1), (0, 0))
        self.assertEqual(self.run_inside(19, 29, 0, 1), (0, 2))
        self.assertEqual(self.run_inside(0, 50, 0, 1), (0, 2))
        self.assertEqual(self.run_inside(12, 12, 0, 1), (2, 0))
        self.assertEqual(self.run_inside(9, 9, 0, 1), (0, 0))

    def test_runs_with_an_offset(self):
        self.assertEqual(self.run_inside(8, 17, 2, 1), (2, 0))
        self.assertEqual(self.run_inside(7, 17, 2, 1), (0, 2))
        self.assertEqual(self.run_inside(8, 18, 2, 1), (0, 2))
        self.assertEqual(self.run_inside(12, 21, -2, 1), (2, 0))
        self.assertEqual(self.run_inside(-12, -12, 2, -1), (2, 0))

    def test_several_runs(self):
        letters = (close(0, 5, 0), read(2, 9), read(5, 13), read(7, 20), close(8, 30, 9))
        self.assertEqual(self.inside(letters, 0, 0), ((((1,), 0, 1, 2, 1), NOTHING + (None,)), False))
        self.assertEqual(self.inside(letters, 0, 1), ((((1,), 0, 0, 3, 1), NOTHING + (None,)), False))
        self.assertEqual(self.inside(letters, 0, 2), ((((1,), 0, 1, 1, 1), NOTHING + (None,)), False))
        self.assertEqual(self.inside(letters, 0, 3), ((NOTHING + (1,), NOTHING + (None,)), True))
        self.assertEqual(self.inside(letters, -1, 0), ((((1,), 0, 1, 2, 1), NOTHING + (None,)), False))
        self.assertEqual(self.inside(letters, 1, 0), ((((), 0, 0, 1, 1), NOTHING + (None,)), False))

    def test_runs_without_a_least_stamp(self):
        letters = (close(3, 10, 5),)
        self.assertEqual(self.inside(letters, 0, 0)[0][0], ((), 0, 0, 3, 2))
        self.assertEqual(self.inside(letters, 0, -HUGE)[0][0], ((), 0, 0, 3, 2))
        self.assertEqual(self.inside(letters, 0, 1)[0][0], ((), 0, 0, 0, 2))
        self.assertEqual(self.inside(letters, 1, 1)[0][0], ((), 0, 0, 3, 2))
        self.assertEqual(self.inside(letters, -1, 0)[0][0], ((), 0, 0, 3, 2))

    def test_runs_of_the_tail(self):
        letters = (read(3, 7, 1, None), read(6, 9, 0, 4), read(7, 12, 0, 0))
        self.assertEqual(self.inside(letters, 0, 0), ((((4,), 1, 2, 2, None),), False))
        self.assertEqual(self.inside(letters, 0, -1), ((((), 0, 0, 2, None),), False))
        self.assertEqual(self.inside(letters, 0, 1), ((((0,), 0, 0, 0, None),), True))

    def test_several_segments(self):
        letters = (read(1, 3, 0, 5), close(2, 5, 4), read(3, 6, 1, None), close(4, 8, 3 + 4), close(4, 9, 3 + 4),
                   read(6, 9, 0, 2))
        self.assertEqual(self.inside(letters, 0, 0), (
            (((5,), 0, 1, 0, 2), ((), 1, 1, 0, 0), ((2,), 0, 1, 0, None)), True,
        ))

    def test_further_slots_after_the_last_received_one(self):
        for stamp, window, more in ((9, 0, True), (10, 0, False), (10, 1, True), (-1, -1, True), (0, -1, False)):
            self.assertIs(self.inside((read(2, stamp),), 0, window)[1], more)
            self.assertIs(self.inside((close(0, stamp - 5, 0), read(2, stamp)), 0, window)[1], more)
        self.assertIs(self.inside((read(2, 9),), 1, 0)[1], False)
        self.assertIs(self.inside((read(2, 11),), -2, 0)[1], True)
        self.assertIs(self.inside((read(2, 9),), 0, HUGE)[1], True)

    def test_further_slots_after_told_numbers(self):
        for number, versions in ((0, 0), (3, 5)):
            for stamp, window, more in ((9, 0, True), (10, 0, False), (11, 0, False), (-HUGE, -1, True)):
                letters = (close(number, stamp - 3, versions), close(number, stamp, versions))
                self.assertIs(self.inside(letters, 0, window)[1], more)
        self.assertIs(self.inside((close(3, 9, 5),), 1, 0)[1], False)

    def test_offsets_beyond_those_that_are_left(self):
        letters = (read(1, 3, 0, 4), close(1, 9, 1), ("clock", "a", 0, 0))
        self.assertEqual(self.inside(letters, 50, 5), ((((4,), 0, 0, 0, 0), NOTHING + (None,)), True))
        self.assertEqual(self.inside(letters, -HUGE * 10, -HUGE), ((((4,), 0, 0, 0, 0), NOTHING + (None,)), True))
        self.assertEqual(self.inside(letters, HUGE, 0), ((NOTHING + (0,), NOTHING + (None,)), False))

    def test_windows_far_away(self):
        letters = (read(1, 3, 0, 4), read(3, 30, 0, 4), close(4, 50, 6))
        self.assertEqual(self.inside(letters, 0, HUGE), ((NOTHING + (2,), NOTHING + (None,)), True))
        self.assertEqual(self.inside(letters, 0, -HUGE), ((NOTHING + (2,), NOTHING + (None,)), False))

    def test_windows_of_one_time_and_very_long_ones(self):
        letters = (read(1, 3, 0, 4), read(3, 5, 0, 2), close(3, 9, 3))
        plan = (1, PLAN[1])
        self.assertEqual(self.inside(letters, 0, 4, plan)[0][0], ((), 0, 0, 1, 0))
        self.assertEqual(self.inside(letters, 0, 5, plan)[0][0], ((2,), 0, 0, 1, 0))
        self.assertEqual(self.inside(letters, 0, 6, plan)[0][0], NOTHING + (0,))
        plan = (HUGE, PLAN[1])
        self.assertEqual(self.inside(letters, 0, 0, plan), ((((2, 4), 0, 1, 0, 0), NOTHING + (None,)), True))
        self.assertEqual(self.inside(letters, -4, 0, plan)[0][0], ((2,), 0, 0, 1, 0))

    def test_no_answer_shares_a_part_that_can_change(self):
        letters = [read(1, 3, 0, 4), close(4, 9, 6)]
        found = inside(PLAN, letters, "a", 0, 0)
        letters.clear()
        self.assertEqual(found, ((((4,), 0, 0 + 3, 0, 2), NOTHING + (None,)), True))


class Examples(Answers):
    PLAN = (10, (("a", 0, 5, 0),))
    LETTERS = [("read", "a", 1, 0, 3, 4), ("read", "a", 4, 1, 12, None), ("close", "a", 4, 15, 6)]

    def test_segments(self):
        self.assertEqual(segments_of(self.PLAN, self.LETTERS, "a"), ((1, 4, 1), (5, None, None)))

    def test_runs(self):
        self.assertEqual(runs_of(self.PLAN, self.LETTERS, "a"), ((2, 3, 3, 12),))

    def test_inside(self):
        found = ((((4,), 0, 0, 2, 1), ((), 0, 0, 0, None)), False)
        self.assertEqual(inside(self.PLAN, self.LETTERS, "a", 0, 0), found)


if __name__ == "__main__":
    unittest.main()
