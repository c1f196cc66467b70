"""Points [7] to [10] and [12]: histories, and which letters and bags are true of them."""

import copy
import unittest

from toldwhensure.histories import agrees, is_history, is_true, reads_of
from tests.support import HUGE

PLAN = (10, (("a", 0, 5, 2), ("b", -3, 9, 0), ("pump", 2, 2, 60)))
A = ("a", -2, ((3, (4,)), (3, (0, None)), (8, (5, None, None, 1))))
B = ("b", 0, ((-7, (-3, 9)),))
PUMP = ("pump", 60, ())
HISTORY = (A, B, PUMP)

NARROW = (10, (("a", 0, 5, 2),))


def log_with(versions, place, stamp=5):
    """A log of three slots, one of which has these versions and this stamp."""
    slots = [(1, (1,)), (5, (2, None)), (9, (3,))]
    slots[place] = (stamp, versions)
    return ("a", 0, tuple(slots))


class Histories(unittest.TestCase):
    def assert_history(self, plan, history):
        self.assertIs(is_history(plan, history), True)

    def assert_no_history(self, plan, history):
        self.assertIs(is_history(plan, history), False)

    def test_one_and_several_meters(self):
        self.assert_history(PLAN, HISTORY)
        self.assert_history(NARROW, (A,))
        self.assert_history(PLAN, (("a", 0, ()), ("b", 0, ()), ("pump", 0, ())))

    def test_offsets_at_both_bounds(self):
        for offset in (-2, -1, 0, 1, 2):
            self.assert_history(NARROW, (("a", offset, ()),))

    def test_offsets_beyond_the_bounds(self):
        for offset in (-3, 3, HUGE, -HUGE):
            self.assert_no_history(NARROW, (("a", offset, ()),))
            self.assert_no_history(PLAN, (("a", offset, ()), B, PUMP))
        self.assert_no_history(PLAN, (A, ("b", 1, ()), PUMP))
        self.assert_no_history(PLAN, (A, ("b", -1, ()), PUMP))
        self.assert_no_history(PLAN, (A, B, ("pump", 61, ())))
        self.assert_no_history(PLAN, (A, B, ("pump", -61, ())))

    def test_equal_stamps(self):
        self.assert_history(NARROW, (("a", 0, ((3, (1,)), (3, (1,)), (3, (2,)))),))

    def test_falling_stamps(self):
        self.assert_history(NARROW, (("a", 0, ((1, (1,)), (2, (1,)), (3, (1,)), (4, (1,)))),))
        self.assert_no_history(NARROW, (("a", 0, ((2, (1,)), (1, (1,)), (3, (1,)), (4, (1,)))),))
        self.assert_no_history(NARROW, (("a", 0, ((1, (1,)), (3, (1,)), (2, (1,)), (4, (1,)))),))
        self.assert_no_history(NARROW, (("a", 0, ((1, (1,)), (2, (1,)), (4, (1,)), (3, (1,)))),))
        self.assert_no_history(NARROW, (("a", 0, ((HUGE, (1,)), (HUGE - 1, (1,)))),))

    def test_many_versions(self):
        self.assert_history(NARROW, (("a", 0, ((3, (1, None, 1, None, None, 5, 0) * 6),)),))

    def test_values_at_both_ends(self):
        for place in range(3):
            for value in (0, 5):
                self.assert_history(NARROW, (log_with((value,), place, 1 + 4 * place),))
                self.assert_history(NARROW, (log_with((1, value), place, 1 + 4 * place),))

    def test_one_bad_value(self):
        for place in range(3):
            for value in (-1, 6, HUGE, -HUGE):
                self.assert_no_history(NARROW, (log_with((value,), place, 1 + 4 * place),))
                self.assert_no_history(NARROW, (log_with((1, value), place, 1 + 4 * place),))
                self.assert_no_history(NARROW, (log_with((1, None, value, 2), place, 1 + 4 * place),))

    def test_no_versions(self):
        for place in range(3):
            self.assert_no_history(NARROW, (log_with((), place, 1 + 4 * place),))

    def test_taken_back(self):
        for place in range(3):
            self.assert_history(NARROW, (log_with((1, None), place, 1 + 4 * place),))
            self.assert_no_history(NARROW, (log_with((None,), place, 1 + 4 * place),))
            self.assert_no_history(NARROW, (log_with((None, 1), place, 1 + 4 * place),))

    def test_faults_in_each_log(self):
        for place in range(3):
            logs = list(HISTORY)
            name, offset, _ = logs[place]
            logs[place] = (name, offset, ((3, (2,)), (2, (2,))))
            self.assert_no_history(PLAN, tuple(logs))
            logs[place] = (name, offset, ((3, (2,)), (4, (10,))))
            self.assert_no_history(PLAN, tuple(logs))
            logs[place] = (name, offset, ((3, (2,)), (4, ())))
            self.assert_no_history(PLAN, tuple(logs))
            logs[place] = (name, offset, ((3, (2,)), (4, (2,))))
            self.assert_history(PLAN, tuple(logs))

    def test_logs_left_out_or_too_many(self):
        self.assert_no_history(PLAN, ())
        self.assert_no_history(NARROW, ())
        self.assert_no_history(PLAN, (A, B))
        self.assert_no_history(PLAN, (B, PUMP))
        self.assert_no_history(PLAN, (A, PUMP))
        self.assert_no_history(PLAN, (A, B, PUMP, PUMP))
        self.assert_no_history(PLAN, (A, B, PUMP, ("q", 0, ())))
        self.assert_no_history(PLAN, (A, A, B, PUMP))
        self.assert_no_history(NARROW, (A, A))
        self.assert_no_history(NARROW, (A, B))

    def test_logs_twice_exchanged_or_of_another_name(self):
        plan = (10, (("a", 0, 5, 2), ("b", 0, 5, 2), ("c", 0, 5, 2)))
        logs = {name: (name, 0, ((3, (4,)),)) for name in "abcd"}
        self.assert_history(plan, (logs["a"], logs["b"], logs["c"]))
        for names in ("aac", "abb", "aab", "bac", "acb", "cba", "dbc", "adc", "abd"):
            self.assert_no_history(plan, tuple(logs[name] for name in names))

    def test_very_large_numbers(self):
        plan = (10, (("a", -HUGE, HUGE, 0),))
        self.assert_history(plan, (("a", 0, ((-HUGE, (HUGE, None, -HUGE)), (HUGE, (3,)))),))
        self.assert_no_history(plan, (("a", 0, ((-HUGE, (HUGE, None, -HUGE - 1)), (HUGE, (3,)))),))
        self.assert_no_history(plan, (("a", 0, ((-HUGE, (HUGE + 1,)),)),))


class Reads(unittest.TestCase):
    def test_each_version_of_each_slot(self):
        self.assertEqual(reads_of(HISTORY), (
            ("read", "a", 1, 0, 3, 4),
            ("read", "a", 2, 0, 3, 0),
            ("read", "a", 2, 1, 3, None),
            ("read", "a", 3, 0, 8, 5),
            ("read", "a", 3, 1, 8, None),
            ("read", "a", 3, 2, 8, None),
            ("read", "a", 3, 3, 8, 1),
            ("read", "b", 1, 0, -7, -3),
            ("read", "b", 1, 1, -7, 9),
        ))

    def test_kinds_of_values(self):
        reads = reads_of(HISTORY)
        self.assertIs(reads.__class__, tuple)
        for letter in reads:
            self.assertIs(letter.__class__, tuple)

    def test_no_slots(self):
        self.assertEqual(reads_of((("a", 1, ()), ("b", 0, ()))), ())
        self.assertEqual(reads_of((PUMP, B)), (("read", "b", 1, 0, -7, -3), ("read", "b", 1, 1, -7, 9)))

    def test_they_are_true(self):
        self.assertIs(agrees(HISTORY, reads_of(HISTORY)), True)


class TrueReads(unittest.TestCase):
    def assert_true(self, *letter):
        self.assertIs(is_true(("read", *letter), HISTORY), True)

    def assert_false(self, *letter):
        self.assertIs(is_true(("read", *letter), HISTORY), False)

    def test_the_letter_itself(self):
        self.assert_true("a", 1, 0, 3, 4)
        self.assert_true("a", 2, 1, 3, None)
        self.assert_true("a", 3, 3, 8, 1)
        self.assert_true("b", 1, 0, -7, -3)

    def test_another_slot(self):
        self.assert_false("a", 2, 0, 3, 4)
        self.assert_false("a", 3, 0, 3, 4)
        self.assert_false("b", 2, 0, -7, -3)
        self.assert_false("pump", 1, 0, 3, 2)
        self.assert_false("a", 4, 0, 8, 5)
        self.assert_false("a", HUGE, 0, 3, 4)

    def test_another_version(self):
        self.assert_false("a", 1, 1, 3, 4)
        self.assert_false("a", 1, HUGE, 3, 4)
        self.assert_false("a", 2, 0, 3, None)
        self.assert_false("a", 2, 2, 3, None)
        self.assert_false("a", 3, 4, 8, 1)
        self.assert_false("a", 3, 2, 8, 1)
        self.assert_true("a", 3, 2, 8, None)

    def test_another_stamp(self):
        for stamp in (2, 4, 1, 0, -3, 8, HUGE, -HUGE):
            self.assert_false("a", 1, 0, stamp, 4)
        self.assert_false("b", 1, 0, 7, -3)

    def test_another_value(self):
        for value in (3, 5, 0, -4, None, HUGE, -HUGE):
            self.assert_false("a", 1, 0, 3, value)
        for value in (0, 1, -1, HUGE):
            self.assert_false("a", 2, 1, 3, value)

    def test_another_name(self):
        self.assert_false("b", 1, 0, 3, 4)
        self.assert_false("a", 1, 0, -7, -3)


class TrueCloses(unittest.TestCase):
    # Two, one, three and one versions.
    HISTORY = (
        ("a", 2, ((3, (4, 1)), (5, (4,)), (5, (4, None, 1)), (8, (4,)))),
        ("b", 0, ()),
    )

    def is_true(self, *letter):
        found = is_true(("close", *letter), self.HISTORY)
        self.assertIn(found, (True, False))
        self.assertIs(found.__class__, bool)
        return found

    def stamps_of(self, slots, versions):
        """The stamps from 0 to 12 with which the letter is true."""
        return [stamp for stamp in range(13) if self.is_true("a", slots, stamp, versions)]

    def test_after_no_slots(self):
        self.assertEqual(self.stamps_of(0, 0), [0, 1, 2, 3])
        self.assertTrue(self.is_true("a", 0, -HUGE, 0))
        self.assertEqual(self.stamps_of(0, 1), [])

    def test_after_some_slots(self):
        self.assertEqual(self.stamps_of(1, 2), [4, 5])
        self.assertEqual(self.stamps_of(3, 6), [6, 7, 8])

    def test_between_equal_stamps(self):
        self.assertEqual(self.stamps_of(2, 3), [])

    def test_after_all_slots(self):
        self.assertEqual(self.stamps_of(4, 7), [9, 10, 11, 12])
        self.assertTrue(self.is_true("a", 4, HUGE, 7))

    def test_after_more_slots_than_there_are(self):
        self.assertEqual(self.stamps_of(5, 7), [])
        self.assertEqual(self.stamps_of(5, 8), [])
        self.assertFalse(self.is_true("a", HUGE, 20, 7))
        self.assertFalse(self.is_true("b", 1, 20, 0))

    def test_another_number_of_versions(self):
        for slots, stamp, versions in ((1, 4, 2), (3, 7, 6), (4, 9, 7)):
            self.assertTrue(self.is_true("a", slots, stamp, versions))
            for other in (versions - 1, versions + 1, 0, HUGE):
                self.assertFalse(self.is_true("a", slots, stamp, other))

    def test_stamps_are_those_of_the_own_clock(self):
        self.assertTrue(self.is_true("a", 4, 9, 7))
        self.assertFalse(self.is_true("a", 4, 8, 7))

    def test_a_log_without_slots(self):
        for stamp in (-HUGE, 0, HUGE):
            self.assertTrue(self.is_true("b", 0, stamp, 0))
            self.assertFalse(self.is_true("b", 0, stamp, 1))


class TrueClocks(unittest.TestCase):
    def assert_truth(self, truth, low, high, name="a"):
        self.assertIs(is_true(("clock", name, low, high), HISTORY), truth)

    def test_around_the_offset(self):
        self.assert_truth(True, -2, -2)
        self.assert_truth(True, -3, -2)
        self.assert_truth(True, -2, -1)
        self.assert_truth(True, -HUGE, HUGE)
        self.assert_truth(True, 0, 0, "b")
        self.assert_truth(True, 60, 61, "pump")

    def test_beside_the_offset(self):
        self.assert_truth(False, -1, 2)
        self.assert_truth(False, -4, -3)
        self.assert_truth(False, 1, HUGE, "b")
        self.assert_truth(False, -HUGE, -1, "b")
        self.assert_truth(False, 61, 61, "pump")
        self.assert_truth(False, 59, 59, "pump")

    def test_low_above_high(self):
        self.assert_truth(False, -1, -3)
        self.assert_truth(False, -2, -3)
        self.assert_truth(False, -1, -2)
        self.assert_truth(False, HUGE, -HUGE)


class Agreeing(unittest.TestCase):
    LETTERS = (
        ("read", "a", 3, 3, 8, 1),
        ("close", "b", 1, 0, 2),
        ("clock", "pump", 0, 60),
        ("read", "a", 1, 0, 3, 4),
        ("close", "a", 2, 4, 3),
        ("read", "a", 3, 3, 8, 1),
    )
    LIES = (("read", "a", 3, 2, 8, 1), ("close", "a", 2, 3, 3), ("clock", "b", 1, 1))

    def test_the_empty_bag(self):
        self.assertIs(agrees(HISTORY, []), True)
        self.assertIs(agrees(HISTORY, ()), True)

    def test_any_order_and_twice(self):
        self.assertIs(agrees(HISTORY, self.LETTERS), True)
        self.assertIs(agrees(HISTORY, self.LETTERS[::-1] + self.LETTERS), True)

    def test_lists_and_tuples_stay_as_they_were(self):
        for lie in ((), self.LIES[:1]):
            letters = list(self.LETTERS + lie)
            before = copy.deepcopy(letters)
            self.assertIs(agrees(HISTORY, letters), lie == ())
            self.assertEqual(letters, before)
            self.assertIs(agrees(HISTORY, tuple(letters)), lie == ())

    def test_one_false_letter(self):
        for lie in self.LIES:
            self.assertIs(agrees(HISTORY, [lie]), False)
            for place in range(len(self.LETTERS) + 1):
                letters = self.LETTERS[:place] + (lie,) + self.LETTERS[place:]
                self.assertIs(agrees(HISTORY, letters), False)
                self.assertIs(agrees(HISTORY, list(letters)), False)


if __name__ == "__main__":
    unittest.main()
