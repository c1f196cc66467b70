"""Points [12] and [19]: histories that agree with a bag, and those that show an end."""

import unittest

from toldwhensure.histories import agrees, is_history, reads_of
from toldwhensure.plainly import plain_value, readings
from toldwhensure.witnesses import some_history, witness
from tests.support import HUGE, assert_raises_only
from tests.telling import Told

PLAN = (10, (("a", 0, 5, 2), ("b", -9, -2, 0), ("c", 4, 4, 60)))
COUNT, SUM, MIDDLE = ("count",), ("sum",), ("rank", 1, 2)
BAD = (
    [("read", "a", 1, 0, 3, 6)], [("read", "b", 1, 0, 3, None)], [("clock", "b", 1, 1)],
    [("read", "c", 2, 0, 3, 4), ("close", "c", 2, 3, 2)], [("close", "a", 0, 5, 0), ("close", "a", 1, 5, 1)],
)


def read(slot, stamp, version=0, value=1, name="a"):
    return ("read", name, slot, version, stamp, value)


def close(slots, stamp, versions, name="a"):
    return ("close", name, slots, stamp, versions)


class SomeHistory(Told):
    def assert_some_history(self, *letters, plan=PLAN):
        for bag in (letters, list(letters), letters[::-1] + letters):
            before = list(bag)
            history = some_history(plan, bag)
            self.assert_shown(plan, bag, history)
            self.assertEqual(list(bag), before)
        self.assert_only_tuples(history)
        # What the program returns can be passed to it again.
        self.assertIs(agrees(history, reads_of(history)), True)
        return history

    def assert_only_tuples(self, part):
        if part is not None and not isinstance(part, (int, str)):
            self.assertIs(part.__class__, tuple)
            for inner in part:
                self.assert_only_tuples(inner)

    def test_the_empty_bag(self):
        self.assert_some_history()
        self.assert_some_history(plan=(1, (("a", -HUGE, HUGE, 60),)))

    def test_closed_logs(self):
        self.assert_some_history(close(3, 9, 3))
        self.assert_some_history(close(3, 9, 8), close(3, 12, 8), close(5, 20, 10))
        self.assert_some_history(close(0, 9, 0))
        self.assert_some_history(close(0, 9, 0), close(1, 10, 1), close(2, 11, 9))
        self.assert_some_history(read(1, 3), read(2, 5), close(2, 9, 2))

    def test_logs_that_go_on(self):
        self.assert_some_history(read(4, 9))
        self.assert_some_history(read(4, 9), read(2, 9), close(1, 9, 1))
        self.assert_some_history(close(2, 10, 2), close(2, 12, 2), read(5, 12))

    def test_hidden_versions(self):
        for versions in (3, 4, 5, 40):
            self.assert_some_history(close(3, 9, versions))
            self.assert_some_history(close(3, 9, versions + 1), read(2, 5, 1, None))
            self.assert_some_history(close(3, 9, versions + 1), read(2, 5, 1, None), read(3, 5), read(1, 5))
            self.assert_some_history(close(3, 9, versions), close(4, 20, versions + 1), close(4, 30, versions + 1))

    def test_versions_that_no_letter_tells(self):
        self.assert_some_history(read(1, 5, 7, None))
        self.assert_some_history(read(1, 5, 7, None), read(1, 5, 2, None), read(1, 5, 3, 4))
        self.assert_some_history(read(1, 5, 7, None), close(1, 6, 8))

    def test_missing_slots_between_equal_stamps(self):
        self.assert_some_history(read(1, 5), read(9, 5), close(9, 6, 9), close(0, 5, 0))

    def test_clocks(self):
        for low, high in ((-2, -2), (2, 9), (-9, -1), (0, 0)):
            history = self.assert_some_history(("clock", "a", low, high), read(1, 3))
            self.assertTrue(low <= history[0][1] <= high)

    def test_several_meters(self):
        self.assert_some_history(
            read(2, 3), close(2, 9, 5), read(1, -4, 3, -9, "b"), close(0, -5, 0, "b"), close(4, 70, 7, "c"),
            read(3, 60, 0, 4, "c"), ("clock", "c", 59, 61), ("clock", "a", -1, 0),
        )

    def test_very_large_stamps(self):
        self.assert_some_history(read(2, HUGE), close(2, HUGE + 1, 3), close(0, -HUGE, 0), read(5, 7 * HUGE))

    def test_not_possible(self):
        for letters in BAD:
            assert_raises_only(self, "NotPossible", some_history, PLAN, letters)
            assert_raises_only(self, "NotPossible", some_history, PLAN, tuple(letters))


class Witnesses(Told):
    def assert_end(self, letters, aggregate, window, end, value, meters=("a",)):
        history = witness(PLAN, letters, aggregate, meters, window, end)
        self.assert_shown(PLAN, letters, history)
        self.assertEqual(plain_value(PLAN, history, aggregate, meters, window), value)

    def assert_none(self, letters, aggregate, window, end, meters=("a",)):
        self.assertIsNone(witness(PLAN, letters, aggregate, meters, window, end))

    def test_ends(self):
        letters = [read(1, 3, 0, 4), read(4, 15, 1, None), close(4, 20, 6), close(0, 3, 0), ("clock", "a", 0, 0)]
        self.assert_end(letters, COUNT, 0, "low", 0)
        self.assert_end(letters, COUNT, 0, "high", 3)
        self.assert_end(letters, SUM, 0, "high", 15)
        self.assert_end(letters, SUM, 1, "high", 15)
        self.assert_end(letters, ("among", 5, 7), 0, "high", 3)
        self.assert_end(letters, MIDDLE, 0, "low", 0)
        self.assert_end(letters, MIDDLE, 0, "high", 5)
        self.assert_end(letters, ("rank", 0, 1), 1, "high", 5)

    def test_no_end(self):
        letters = [read(1, 3, 0, 4)]
        self.assert_none(letters, COUNT, 0, "high")
        self.assert_none(letters, SUM, 0, "high")
        self.assert_none(letters, ("among", 0, 0), 0, "high")
        self.assert_end(letters, ("among", 7, 9), 0, "high", 0)
        self.assert_none(letters, SUM, 0, "low", ("b",))
        self.assert_end(letters, SUM, 0, "high", 0, ("b",))
        self.assert_none(letters, SUM, 0, "low", ("a", "b"))
        self.assert_none(letters, SUM, 0, "high", ("a", "b"))

    def test_no_readings(self):
        letters = [close(0, 50, 0)]
        for end in ("low", "high"):
            self.assert_none(letters, MIDDLE, 0, end)
            self.assert_end(letters, COUNT, 0, end, 0)

    def test_empty(self):
        for aggregate in (COUNT, SUM, ("among", 0, 3), MIDDLE):
            for letters in ([], [read(1, 3)], [close(3, 9, 3)], [read(1, 3), close(1, 9, 2)], [read(1, 8), close(1, 9, 1)],
                            [read(1, 3), read(3, 4), close(3, 9, 6), close(0, 2, 0)]):
                history = witness(PLAN, letters, aggregate, ("a",), 0, "empty")
                self.assert_shown(PLAN, letters, history)
                self.assertEqual(readings(PLAN, history, ("a",), 0), ())
            for letters in ([read(1, 3), close(1, 9, 1)], [read(1, 3), read(3, 4), close(3, 9, 5), close(0, 2, 0)]):
                self.assert_none(letters, aggregate, 0, "empty")

    def test_empty_for_several_meters(self):
        letters = [read(1, 8), close(1, 9, 1), read(1, 8, 0, -2, "b"), close(1, 9, 1, "b")]
        self.assert_none(letters, SUM, 0, "empty", ("a", "b"))
        letters = [read(1, 8), close(1, 9, 1), read(1, 8, 0, -2, "b"), close(1, 9, 2, "b")]
        history = witness(PLAN, letters, SUM, ("a", "b", "c"), 0, "empty")
        self.assert_shown(PLAN, letters, history)
        self.assertEqual(readings(PLAN, history, ("a", "b", "c"), 0), ())

    def test_a_sum_of_0_is_not_empty(self):
        letters = [read(1, 3, 0, 0), close(1, 9, 1), ("clock", "a", 0, 0), close(1, 20, 1)]
        self.assert_end(letters, SUM, 0, "low", 0)
        self.assert_none(letters, SUM, 0, "empty")
        self.assert_none(letters, ("among", 3, 4), 0, "empty")

    def test_very_large_numbers(self):
        plan = (HUGE, (("a", -HUGE, HUGE, 1),))
        letters = [read(1, HUGE - 1, 0, HUGE), read(4, 3 * HUGE, 0, 0), close(4, 9 * HUGE, 5)]
        for end, value in (("low", -3 * HUGE), ("high", 3 * HUGE)):
            history = witness(plan, letters, SUM, ("a",), 1, end)
            self.assertIs(is_history(plan, history) and agrees(history, letters), True)
            self.assertTrue(plain_value(plan, history, SUM, ("a",), 1) == value)

    def test_not_possible(self):
        for letters in BAD:
            for aggregate in (COUNT, SUM, ("among", 0, 3), MIDDLE):
                for end in ("low", "high", "empty"):
                    assert_raises_only(self, "NotPossible", witness, PLAN, letters, aggregate, ("a",), 0, end)


if __name__ == "__main__":
    unittest.main()
