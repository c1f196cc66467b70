"""Points [30] to [32]: settled numbers, folded forms, their joins, and what is told from them."""

import random

from tests.forms import AGGREGATES, Forms, plain_folded, plain_settled, random_history, random_plan, true_letters
from tests.support import HUGE, assert_raises_only
from toldwhensure.folding import folded, join_folded, settled_slots, told_folded
from toldwhensure.histories import reads_of
from toldwhensure.segments import offsets_left
from toldwhensure.telling import told

PLAN = (10, (("a", 0, 5, 2), ("b", -3, 9, 0), ("c", 4, 4, 60)))
NAMES = ("a", "b", "c")


def read(slot, stamp, version=0, value=1, name="a"):
    return ("read", name, slot, version, stamp, value)


def close(slots, stamp, versions, name="a"):
    return ("close", name, slots, stamp, versions)


def clock(low, high, name="a"):
    return ("clock", name, low, high)


class SettledSlots(Forms):
    def assert_settled(self, letters, number, name="a", plan=PLAN):
        found = self.same_for_each_form(lambda bag: settled_slots(plan, bag, name), letters)
        self.assertEqual(found, number)
        self.assertEqual(plain_settled(plan, letters, name), number)
        others = [read(1, 3, name="c"), close(1, 9, 1, "c"), clock(1, 1, "c")]
        self.assertEqual(settled_slots(plan, list(letters) + others, name), number)

    def test_without_close_letters(self):
        self.assert_settled([], 0)
        self.assert_settled([read(1, 3), read(2, 4), clock(0, 0)], 0)
        self.assert_settled([read(1, 3), close(1, 9, 1, "b")], 0)

    def test_all_slots_are_received(self):
        self.assert_settled([read(1, 3), close(1, 9, 1)], 1)
        self.assert_settled([read(1, 3), read(2, 7), close(2, 9, 2)], 2)
        self.assert_settled([read(1, 3, name="b"), read(2, 17, 3, None, "b"), close(2, 19, 5, "b")], 2, "b")

    def test_a_slot_is_missing(self):
        slots = [read(1, 3), read(2, 4), read(3, 5)]
        for missing in slots:
            left = [letter for letter in slots if letter != missing]
            self.assert_settled(left + [close(3, 9, 3)], 0)
        self.assert_settled([close(1, 9, 1)], 0)
        # Up to a number before the missing slot all may be settled.
        self.assert_settled([read(1, 3), read(3, 5), close(1, 4, 1), close(3, 9, 3)], 1)
        self.assert_settled([read(1, 3), read(2, 4), close(2, 5, 2), close(3, 9, 3)], 2)
        self.assert_settled([read(2, 4), close(1, 4, 1), close(2, 9, 2)], 0)

    def test_hidden_versions(self):
        self.assert_settled([read(1, 3), close(1, 9, 2)], 0)
        self.assert_settled([read(1, 3, 1), close(1, 9, 2)], 1)
        self.assert_settled([read(1, 3, 1), read(1, 3), close(1, 9, 3)], 0)
        # In an earlier segment.
        self.assert_settled([read(1, 3), close(1, 5, 2), read(2, 5), close(2, 9, 3)], 0)
        # In the last one.
        self.assert_settled([read(1, 3), close(1, 5, 1), read(2, 5), close(2, 9, 3)], 1)
        # In one between.
        self.assert_settled(
            [read(1, 3), close(1, 4, 1), read(2, 4), close(2, 5, 3), read(3, 5), close(3, 9, 4)], 1
        )

    def test_slots_in_two_windows_for_two_offsets(self):
        for stamp, number in ((1, 0), (2, 1), (7, 1), (8, 0), (-8, 1), (-3, 1), (-9, 0), (-2, 0), (12, 1), (11, 0)):
            self.assert_settled([read(1, stamp), close(1, 30, 1)], number)
        self.assert_settled([read(1, 1), close(1, 9, 1), clock(-1, 9)], 1)
        self.assert_settled([read(1, 8), close(1, 9, 1), clock(-9, 1)], 1)
        self.assert_settled([read(1, 8), close(1, 9, 1), clock(-9, 2)], 0)
        self.assert_settled([read(1, 8), close(1, 9, 1), clock(2, 9)], 1)
        # One such slot among others.
        self.assert_settled([read(1, 3), read(2, 8), read(3, 15), close(3, 19, 3)], 0)
        self.assert_settled([read(1, 3), read(2, 8), read(3, 15), close(1, 5, 1), close(3, 19, 3)], 1)
        self.assert_settled([read(1, 3), read(2, 8), read(3, 15), close(3, 19, 3), clock(-2, 1)], 3)

    def test_one_offset_alone(self):
        for stamp in range(-12, 13):
            self.assert_settled([read(1, stamp), close(1, 30, 1), clock(1, 1)], 1)
            self.assert_settled([read(1, stamp, name="b"), close(1, 30, 1, "b")], 1, "b")

    def test_windows_shorter_than_the_offsets_left(self):
        plan = (4, (("a", 0, 5, 2), ("b", 0, 5, 0)))
        for stamp in range(-5, 5):
            self.assertEqual(settled_slots(plan, [read(1, stamp), close(1, 30, 1)], "a"), 0)
        plan = (5, (("a", 0, 5, 2), ("b", 0, 5, 0)))
        found = [stamp for stamp in range(-9, 9) if settled_slots(plan, [read(1, stamp), close(1, 30, 1)], "a")]
        self.assertEqual(found, [-8, -3, 2, 7])

    def test_0_as_the_only_number(self):
        self.assert_settled([close(0, 9, 0)], 0)
        self.assert_settled([close(0, 3, 0), read(1, 3)], 0)

    def test_several_numbers(self):
        slots = [read(slot, slot + 1) for slot in range(1, 7)]
        closes = [close(0, 0, 0), close(1, 3, 1), close(3, 5, 3), close(4, 6, 4), close(6, 8, 6)]
        self.assert_settled(slots + closes, 6)
        self.assert_settled(slots + closes[:4], 4)
        # The greatest one is not settled.
        self.assert_settled(slots[:5] + closes, 4)
        self.assert_settled(slots[:3] + slots[4:] + closes, 3)
        self.assert_settled(slots[:2] + slots[3:] + closes, 1)
        self.assert_settled(slots[1:] + closes, 0)

    def test_values_of_none(self):
        self.assert_settled([read(1, 3, 1, None), close(1, 9, 2)], 1)
        self.assert_settled([read(1, 3, 1, None), read(2, 4), close(2, 9, 3)], 2)
        self.assert_settled([read(1, 3, 1, None), close(1, 9, 3)], 0)

    def test_negative_times(self):
        self.assert_settled([read(1, -15), read(2, -4), close(2, 0, 2)], 2)
        self.assert_settled([read(1, -15), read(2, -1), close(2, 0, 2)], 0)
        self.assert_settled([read(1, -1), close(1, 0, 1), clock(-2, 0)], 1)
        self.assert_settled([read(1, -1), close(1, 0, 1), clock(0, 1)], 0)

    def test_by_the_words_of_the_point(self):
        choices = random.Random(9)
        seen = set()
        for _ in range(400):
            plan = random_plan(choices)
            letters = true_letters(choices, random_history(choices, plan))
            for meter in plan[1]:
                number = settled_slots(plan, letters, meter[0])
                self.assertEqual(number, plain_settled(plan, letters, meter[0]))
                seen.add(number)
        self.assertLessEqual({0, 1, 2, 3, 4}, seen)


class Folded(Forms):
    def assert_folded(self, letters, *form, plan=PLAN):
        found = self.form_of(lambda bag: folded(plan, bag), letters)
        self.assertEqual(found, form)
        self.assertEqual(plain_folded(plan, letters), form)

    def test_no_letters(self):
        self.assert_folded((), (), ())

    def test_without_settled_slots(self):
        self.assert_folded([read(1, 3), read(1, 3, 1), clock(-9, 9)], (), (clock(-2, 2), read(1, 3, 1)))
        self.assert_folded([close(0, 5, 0), close(0, 3, 0)], (), (close(0, 5, 0),))
        self.assert_folded([read(1, 3), close(1, 9, 2)], (), (close(1, 9, 2), read(1, 3)))

    def test_one_past(self):
        self.assert_folded([read(1, 3, 0, 4), close(1, 9, 1)], (("a", 1, 9, 1, ((0, 4, 1),)),), ())

    def test_rows_in_ascending_order_with_counts(self):
        letters = [
            read(1, -15, 0, 5), read(2, 2, 0, 3), read(3, 3, 0, 0), read(4, 5, 1, 3), read(5, 7, 0, 3),
            read(6, 12, 0, 1), read(7, 13, 0, 3), close(7, 20, 8),
        ]
        rows = ((-2, 5, 1), (0, 0, 1), (0, 3, 3), (1, 1, 1), (1, 3, 1))
        self.assert_folded(letters, (("a", 7, 20, 8, rows),), ())

    def test_negative_values(self):
        letters = [read(1, 0, 0, 9, "b"), read(2, 0, 0, -3, "b"), read(3, 0, 0, -1, "b"), read(4, 9, 0, -3, "b"),
                   close(4, 10, 4, "b")]
        self.assert_folded(letters, (("b", 4, 10, 4, ((0, -3, 2), (0, -1, 1), (0, 9, 1))),), ())

    def test_equal_values_in_one_window_and_in_two(self):
        letters = [read(1, 2, 0, 3), read(2, 7, 0, 3), close(2, 9, 2)]
        self.assert_folded(letters, (("a", 2, 9, 2, ((0, 3, 2),)),), ())
        letters = [read(1, 7, 0, 3), read(2, 12, 0, 3), close(2, 14, 2)]
        self.assert_folded(letters, (("a", 2, 14, 2, ((0, 3, 1), (1, 3, 1))),), ())

    def test_the_window_is_that_of_the_true_time(self):
        letters = [read(1, 9, 0, 3), close(1, 10, 1), clock(1, 1)]
        self.assert_folded(letters, (("a", 1, 10, 1, ((1, 3, 1),)),), (clock(1, 1),))
        letters = [read(1, 10, 0, 3), close(1, 11, 1), clock(-2, -1)]
        self.assert_folded(letters, (("a", 1, 11, 1, ((0, 3, 1),)),), (clock(-2, -1),))

    def test_readings_that_were_taken_back(self):
        letters = [read(1, 3, 1, None), read(2, 4, 0, 0), read(3, 5, 3, None), close(3, 9, 7)]
        self.assert_folded(letters, (("a", 3, 9, 7, ((0, 0, 1),)),), ())
        # A past without rows.
        letters = [read(1, 3, 1, None), read(1, 3), close(1, 9, 2)]
        self.assert_folded(letters, (("a", 1, 9, 2, ()),), ())

    def test_only_the_known_version_counts(self):
        letters = [read(1, 3, 0, 5), read(1, 3, 2, 4), read(1, 3, 1, None), close(1, 9, 3)]
        self.assert_folded(letters, (("a", 1, 9, 3, ((0, 4, 1),)),), ())

    def test_the_floor_of_several_stamps(self):
        letters = [read(1, 3), close(1, 9, 1), close(1, 5, 1), close(1, 30, 1), close(1, 7, 1)]
        self.assert_folded(letters, (("a", 1, 30, 1, ((0, 1, 1),)),), ())

    def test_pasts_in_the_order_of_the_plan(self):
        one = [read(1, 3), close(1, 9, 1)]
        other = [read(1, 3, 0, 7, "b"), close(1, 9, 1, "b")]
        third = [read(1, 3, 0, 4, "c"), close(1, 9, 1, "c"), clock(0, 0, "c")]
        past, another = ("a", 1, 9, 1, ((0, 1, 1),)), ("b", 1, 9, 1, ((0, 7, 1),))
        self.assert_folded(third + other + one, (past, another, ("c", 1, 9, 1, ((0, 4, 1),))), (clock(0, 0, "c"),))
        # Meters without a past.
        self.assert_folded(third[:2] + other + one, (past, another), (close(1, 9, 1, "c"), read(1, 3, 0, 4, "c")))
        self.assert_folded(other, (another,), ())
        self.assert_folded(other + one[:1], (another,), (read(1, 3),))
        self.assert_folded(other[1:] + one, (past,), (close(1, 9, 1, "b"),))

    def test_letters_beyond_the_pasts(self):
        letters = [
            read(1, 3), read(2, 4, 0, 2), close(0, 3, 0), close(1, 4, 1), close(2, 6, 2), close(2, 5, 2),
            read(3, 7, 0, 3), read(3, 7, 1, None), read(5, 15, 0, 1), close(4, 20, 9), close(4, 15, 9), close(5, 22, 10),
            clock(-1, 60), clock(-60, 1),
        ]
        left = (clock(-1, 1), close(4, 15, 9), close(4, 20, 9), close(5, 22, 10), read(3, 7, 1, None), read(5, 15))
        # Slot 5 would be before the floor of 4.
        letters.remove(close(4, 20, 9))
        left = tuple(letter for letter in left if letter != close(4, 20, 9))
        self.assert_folded(letters, (("a", 2, 6, 2, ((0, 1, 1), (0, 2, 1))),), left)

    def test_greater_numbers_with_several_stamps(self):
        letters = [read(1, 3), close(1, 5, 1), close(1, 7, 1), close(2, 20, 2), close(2, 24, 2), close(2, 22, 2)]
        self.assert_folded(letters, (("a", 1, 7, 1, ((0, 1, 1),)),), (close(2, 20, 2), close(2, 24, 2)))

    def test_letters_about_settled_slots_of_other_meters_stay(self):
        letters = [read(1, 3), read(2, 4), close(2, 9, 2), read(1, 3, name="b"), close(2, 9, 2, "b"), close(0, 0, 0, "b")]
        past = ("a", 2, 9, 2, ((0, 1, 2),))
        self.assert_folded(letters, (past,), (close(0, 0, 0, "b"), close(2, 9, 2, "b"), read(1, 3, name="b")))

    def test_very_large_numbers(self):
        plan = (HUGE, (("a", -HUGE, HUGE, HUGE),))
        letters = [read(1, HUGE * HUGE, HUGE, -HUGE), close(1, HUGE * HUGE + 1, HUGE + 1), clock(0, HUGE - 1)]
        self.assertEqual(folded(plan, letters),
                         ((("a", 1, HUGE * HUGE + 1, HUGE + 1, ((HUGE, -HUGE, 1),)),), (clock(0, HUGE - 1),)))
        letters[2] = clock(0, HUGE)
        self.assertEqual(folded(plan, letters)[0], ())

    def test_not_possible(self):
        for letters in ([read(1, 3, 0, None)], [read(1, 3), close(1, 3, 1)], [clock(1, 1, "b")]):
            assert_raises_only(self, "NotPossible", folded, PLAN, letters)
            assert_raises_only(self, "NotPossible", folded, PLAN, tuple(letters) + (read(1, 3, 0, 4, "c"),))

    def test_a_log_of_many_slots_folds_away(self):
        choices = random.Random(10)
        stamp, slots = 0, []
        for _ in range(400):
            stamp += choices.randint(0, 9)
            later = choices.choices((0, 1, 2, 3, None), k=choices.randint(0, 3))
            slots.append((stamp, (choices.randint(0, 5), *later)))
        history = (("a", 1, tuple(slots)), ("b", 0, ()), ("c", 0, ()))
        versions = [sum(len(slot[1]) for slot in slots[:number]) for number in range(401)]
        letters = list(reads_of(history))
        letters += [close(number, slots[number][0], versions[number]) for number in range(400)
                    if number == 0 or slots[number - 1][0] < slots[number][0]]
        letters += [close(400, stamp + 1, versions[400]), close(400, stamp + 50, versions[400])]
        letters += [clock(1, 9), clock(-3, 1)]
        choices.shuffle(letters)
        (past,), left = folded(PLAN, letters)
        self.assertEqual(left, (clock(1, 1),))
        self.assertEqual(past[:4], ("a", 400, stamp + 50, versions[400]))
        counts = {}
        for at, found in slots:
            if found[-1] is not None:
                counts[(at + 1) // 10, found[-1]] = counts.get(((at + 1) // 10, found[-1]), 0) + 1
        self.assertEqual(past[4], tuple(sorted((*place, many) for place, many in counts.items())))
        self.assertLessEqual(len(past[4]), 6 * len({row[0] for row in past[4]}))

    def test_by_the_words_of_the_point(self):
        choices = random.Random(11)
        for _ in range(400):
            plan = random_plan(choices)
            letters = true_letters(choices, random_history(choices, plan))
            self.assertEqual(folded(plan, letters), plain_folded(plan, letters))


class ToldFolded(Forms):
    def assert_told_folded(self, letters, aggregate, meters, window, answer, plan=PLAN):
        self.assertEqual(told(plan, letters, aggregate, meters, window), answer)
        form = folded(plan, letters)
        found = told_folded(plan, form, aggregate, meters, window)
        self.assertEqual(found, answer)
        self.assert_tuples(found)
        self.assertEqual(folded(plan, letters), form)

    # Windows 0 and 1 of a are settled; window 2 is not, and all further slots of a are from 25 on.
    LETTERS = [
        read(1, 3, 0, 4), read(2, 4, 1, None), read(3, 7, 0, 2), read(4, 15, 0, 2), close(4, 17, 5), close(4, 21, 5),
        read(5, 22, 0, 5), close(6, 25, 9), clock(-1, 0),
    ]

    def test_settled_readings_alone(self):
        for aggregate, answer in ((("count",), (2, 2)), (("sum",), (6, 6)), (("among", 3, 9), (1, 1)),
                                  (("rank", 0, 1), (False, 2, 2)), (("rank", 1, 1), (False, 4, 4))):
            self.assert_told_folded(self.LETTERS, aggregate, ("a",), 0, answer)
        self.assert_told_folded(self.LETTERS, ("sum",), ("a",), 1, (2, 2))
        self.assert_told_folded(self.LETTERS, ("sum",), ("a",), -1, (0, 0))
        self.assert_told_folded(self.LETTERS, ("rank", 1, 2), ("a",), -1, (True, None, None))

    def test_windows_with_others_beside_settled_readings(self):
        # Slot 4 is settled in window 1, and for the offset -1 slots 5 and 6 are there as well.
        letters = self.LETTERS[:6] + [read(5, 21, 0, 5), close(6, 25, 7)]
        letters = [letter for letter in letters if letter != close(4, 21, 5)] + [clock(-2, -2)]
        self.assert_told_folded(letters, ("count",), ("a",), 1, (2, 3))
        self.assert_told_folded(letters, ("sum",), ("a",), 1, (7, 12))
        self.assert_told_folded(letters, ("rank", 0, 1), ("a",), 1, (False, 0, 2))
        self.assert_told_folded(letters, ("rank", 1, 1), ("a",), 1, (False, 5, 5))

    def test_several_settled_readings_of_one_value(self):
        letters = [read(slot, 4, 0, 2) for slot in range(1, 8)] + [close(7, 5, 7), close(9, 7, 9)]
        self.assert_told_folded(letters, ("count",), ("a",), 0, (9, None))
        self.assert_told_folded(letters, ("sum",), ("a",), 0, (14, None))
        self.assert_told_folded(letters + [close(9, 20, 9)], ("sum",), ("a",), 0, (14, 24))
        self.assert_told_folded(letters + [close(9, 20, 9)], ("rank", 1, 2), ("a",), 0, (False, 2, 2))
        self.assert_told_folded(letters + [close(9, 20, 9)], ("rank", 1, 10), ("a",), 0, (False, 0, 2))

    def test_behind_the_settled_slots(self):
        # Two hidden versions may take back slots 5 and 6.
        self.assert_told_folded(self.LETTERS, ("count",), ("a",), 2, (0, None))
        self.assert_told_folded(self.LETTERS, ("sum",), ("a",), 2, (0, None))
        self.assert_told_folded(self.LETTERS, ("count",), ("a",), 7, (0, None))

    def test_hidden_versions_behind_a_past(self):
        letters = self.LETTERS + [close(6, 35, 9)]
        self.assert_told_folded(letters, ("count",), ("a",), 2, (0, 2))
        self.assert_told_folded(letters, ("sum",), ("a",), 2, (0, 10))
        self.assert_told_folded([letter for letter in letters if letter[-1] != 9] + [close(6, 35, 7)],
                                ("sum",), ("a",), 2, (5, 10))

    def test_the_floor_of_a_past_limits_later_slots(self):
        letters = [read(1, 3, name="b"), close(1, 5, 1, "b"), read(3, 25, name="b"), close(3, 30, 3, "b")]
        self.assert_told_folded(letters, ("count",), ("b",), 0, (1, 2))
        self.assert_told_folded(letters + [close(1, 9, 1, "b")], ("count",), ("b",), 0, (1, 2))
        self.assert_told_folded(letters + [close(1, 10, 1, "b")], ("count",), ("b",), 0, (1, 1))
        # In the tail, too.
        self.assert_told_folded([read(1, 3, name="b"), close(1, 9, 1, "b")], ("count",), ("b",), 0, (1, None))
        self.assert_told_folded([read(1, 3, name="b"), close(1, 10, 1, "b")], ("count",), ("b",), 0, (1, 1))

    def test_clocks_that_err(self):
        letters = [read(1, 5, 0, 3), close(1, 8, 1), read(2, 8, 0, 4), close(2, 10, 2)]
        self.assert_told_folded(letters, ("sum",), ("a",), 0, (3, None))
        self.assert_told_folded(letters + [close(2, 12, 2)], ("sum",), ("a",), 0, (3, 7))
        self.assert_told_folded(letters + [close(2, 12, 2)], ("rank", 1, 1), ("a",), 0, (False, 3, 4))
        # In window 1 there may be slot 2 and further ones.
        self.assert_told_folded(letters + [close(2, 12, 2)], ("sum",), ("a",), 1, (0, None))

    def test_several_meters(self):
        letters = self.LETTERS + [read(1, 3, 0, -2, "b"), close(1, 12, 1, "b"), read(1, 5, 0, 4, "c"), close(1, 69, 1, "c")]
        self.assert_told_folded(letters, ("sum",), ("a", "b"), 0, (4, 4))
        self.assert_told_folded(letters, ("sum",), ("a", "c"), 0, (6, None))
        letters.append(clock(-6, 0, "c"))
        self.assert_told_folded(letters, ("sum",), ("a", "b", "c"), 0, (4, 8))
        self.assert_told_folded(letters, ("rank", 0, 1), ("a", "b", "c"), 0, (False, -2, -2))
        self.assert_told_folded(letters, ("rank", 1, 2), ("b", "c"), 0, (False, -2, -2))

    def test_no_letters(self):
        self.assert_told_folded([], ("count",), NAMES, 0, (0, None))
        self.assert_told_folded([], ("rank", 1, 2), ("a",), 0, (True, 0, 5))

    def test_very_large_numbers(self):
        plan = (HUGE, (("a", -HUGE, HUGE, 1),))
        letters = [read(1, HUGE * HUGE + 1, 0, HUGE), close(1, HUGE * (HUGE + 3) + 1, 1), read(3, HUGE ** 3)]
        self.assert_told_folded(letters, ("sum",), ("a",), HUGE, (HUGE, HUGE), plan=plan)
        self.assert_told_folded(letters, ("sum",), ("a",), HUGE + 3, (-HUGE, HUGE), plan=plan)

    def test_the_same_as_after_the_letters(self):
        choices = random.Random(12)
        pasts = 0
        for _ in range(300):
            plan = random_plan(choices)
            letters = true_letters(choices, random_history(choices, plan))
            form = folded(plan, letters)
            pasts += len(form[0])
            names = tuple(meter[0] for meter in plan[1])
            for meters in {names, names[:1], names[-1:]}:
                for aggregate in AGGREGATES:
                    for window in range(-4, 5):
                        self.assertEqual(told_folded(plan, form, aggregate, meters, window),
                                         told(plan, letters, aggregate, meters, window))
        self.assertGreater(pasts, 150)


class JoinFolded(Forms):
    def assert_joined(self, *bags, plan=PLAN):
        """All joins of the forms of these bags are the folded form of all letters together."""
        form = folded(plan, [letter for bag in bags for letter in bag])
        self.assertEqual(form, plain_folded(plan, [letter for bag in bags for letter in bag]))
        forms = [folded(plan, bag) for bag in bags]
        for order in (forms, forms[::-1], forms + forms, forms[1:] + forms[:1]):
            for found in (self.row_of_joins(plan, order), self.tree_of_joins(plan, order)):
                self.assertEqual(found, form)
                self.assert_tuples(found)
        for one in forms:
            self.assertEqual(join_folded(plan, form, one), form)
            self.assertEqual(join_folded(plan, one, form), form)
            self.assertEqual(join_folded(plan, one, one), one)
            self.assertEqual(join_folded(plan, one, ((), ())), one)
            self.assertEqual(join_folded(plan, ((), ()), one), one)
        return form

    def row_of_joins(self, plan, forms):
        found = ((), ())
        for one in forms:
            found = join_folded(plan, found, one)
        return found

    def tree_of_joins(self, plan, forms):
        while len(forms) > 1:
            pairs = [join_folded(plan, one, other) for one, other in zip(forms[::2], forms[1::2])]
            forms = pairs + (forms[-1:] if len(forms) % 2 else [])
        return forms[0]

    def test_no_letters(self):
        self.assertEqual(self.assert_joined([], []), ((), ()))
        self.assert_joined([], [read(1, 3), close(1, 9, 1)])

    def test_without_pasts(self):
        self.assert_joined([read(1, 3), clock(-1, 2)], [read(1, 3, 1), clock(-2, 1)])
        self.assert_joined([close(2, 9, 2), close(0, 3, 0)], [close(2, 7, 2), close(0, 1, 0)])

    def test_pasts_of_the_same_number(self):
        form = self.assert_joined([read(1, 3), close(1, 9, 1)], [read(1, 3), close(1, 9, 1)])
        self.assertEqual(form, ((("a", 1, 9, 1, ((0, 1, 1),)),), ()))
        form = self.assert_joined([read(1, 3), close(1, 9, 1)], [read(1, 3), close(1, 20, 1)])
        self.assertEqual(form, ((("a", 1, 20, 1, ((0, 1, 1),)),), ()))
        form = self.assert_joined([read(1, 3), close(1, 9, 1), close(2, 30, 5)], [read(1, 3), close(1, 7, 1), clock(0, 1)])
        self.assertEqual(form, ((("a", 1, 9, 1, ((0, 1, 1),)),), (clock(0, 1), close(2, 30, 5))))

    def test_pasts_of_different_numbers(self):
        one = [read(1, 3), close(1, 4, 1)]
        other = [read(1, 3), read(2, 5, 0, 2), close(2, 9, 2)]
        form = self.assert_joined(one, other)
        self.assertEqual(form, ((("a", 2, 9, 2, ((0, 1, 1), (0, 2, 1))),), ()))
        # The floor of the shorter past is none of the longer one.
        self.assert_joined(one + [close(1, 5, 1)], other)
        # With letters about the slots of the other's past.
        self.assert_joined(one + [read(2, 5, 0, 2)], other)
        self.assert_joined(one + [read(2, 5, 0, 2), read(3, 9, 0, 5)], other)

    def test_letters_about_the_slots_of_the_others_past(self):
        past = [read(1, 3), read(2, 5, 1, None), close(2, 7, 3)]
        self.assert_joined(past, [read(2, 5, 0, 4)])
        self.assert_joined(past, [read(1, 3), read(3, 8)])
        self.assert_joined(past, [close(1, 4, 1), close(0, 2, 0)])
        self.assert_joined(past, [close(1, 4, 1), read(2, 5, 1, None), close(3, 9, 6), read(3, 7)])
        form = self.assert_joined(past, [close(1, 4, 1), close(0, 2, 0), read(2, 5, 0, 2), read(4, 20), close(3, 18, 4)])
        self.assertEqual(form[1], (close(3, 18, 4), read(4, 20)))

    def test_a_close_letter_with_the_number_of_the_others_past(self):
        past = [read(1, 3), close(1, 9, 1)]
        for stamp, floor in ((4, 9), (8, 9), (9, 9), (10, 10), (400, 400)):
            form = self.assert_joined(past, [close(1, stamp, 1)])
            self.assertEqual(form, ((("a", 1, floor, 1, ((0, 1, 1),)),), ()))
        form = self.assert_joined(past, [close(1, 8, 1), close(1, 12, 1), close(1, 10, 1)])
        self.assertEqual(form, ((("a", 1, 12, 1, ((0, 1, 1),)),), ()))
        # Of another number, or of another meter.
        form = self.assert_joined(past, [close(2, 12, 2)])
        self.assertEqual(form[0][0][2], 9)
        form = self.assert_joined(past, [close(1, 12, 1, "b")])
        self.assertEqual(form[0][0][2], 9)

    def test_slots_that_become_settled_by_the_join(self):
        # Without a past before them.
        form = self.assert_joined([read(1, 3)], [close(1, 9, 1)])
        self.assertEqual(form, ((("a", 1, 9, 1, ((0, 1, 1),)),), ()))
        self.assert_joined([read(1, 3), close(2, 9, 3)], [read(2, 4, 1, 0)])
        self.assert_joined([read(1, 3), close(1, 9, 2)], [read(1, 3, 1, 0)])
        self.assert_joined([read(1, 8), close(1, 9, 1)], [clock(0, 1)])
        # Behind a past.
        past = [read(1, 3), close(1, 5, 1)]
        form = self.assert_joined(past + [close(3, 9, 3), read(2, 6)], [read(3, 7, 0, 2)])
        self.assertEqual(form, ((("a", 3, 9, 3, ((0, 1, 2), (0, 2, 1))),), ()))
        self.assert_joined(past + [close(3, 9, 4), read(2, 6)], [read(3, 7, 1, None)])
        self.assert_joined(past + [close(2, 9, 2), read(2, 8)], [clock(-1, 1)])
        self.assert_joined(past, [read(2, 12), read(3, 13, 0, 2), close(2, 13, 2)], [close(3, 15, 3)])
        # Only up to a number between.
        form = self.assert_joined(past + [read(2, 6), read(3, 7)], [close(2, 7, 2), close(4, 9, 9)])
        self.assertEqual(form[0][0][1], 2)

    def test_rows_of_a_past_and_of_slots_behind_it_in_one_window(self):
        past = [read(1, 3, 0, 4), read(2, 4, 0, 4), read(3, 5, 0, 1), close(3, 6, 3)]
        form = self.assert_joined(past, [read(4, 6, 0, 4), read(5, 7, 0, 0), read(6, 14, 0, 4), close(6, 15, 6)])
        self.assertEqual(form[0], (("a", 6, 15, 6, ((0, 0, 1), (0, 1, 1), (0, 4, 3), (1, 4, 1))),))

    def test_clocks_of_both(self):
        # Window 0 has the slot for all offsets that one of the two leaves.
        form = self.assert_joined([read(1, 8), close(1, 9, 1), clock(-2, 1)], [clock(1, 2), read(1, 8)])
        self.assertEqual(form, ((("a", 1, 9, 1, ((0, 1, 1),)),), (clock(1, 1),)))
        form = self.assert_joined([read(1, 9), close(1, 10, 1), clock(1, 2)], [read(2, 18), close(2, 19, 2)])
        self.assertEqual(form[0], (("a", 1, 10, 1, ((1, 1, 1),)),))

    def test_several_meters(self):
        one = [read(1, 3), close(1, 9, 1), read(1, 3, 0, 7, "b"), clock(0, 0, "c")]
        other = [close(1, 9, 1, "b"), read(1, 9, 0, 4, "c"), read(2, 12)]
        third = [close(1, 12, 1, "c"), close(2, 13, 2), close(1, 10, 1, "b")]
        form = self.assert_joined(one, other, third)
        self.assertEqual(form, (
            (("a", 2, 13, 2, ((0, 1, 1), (1, 1, 1))), ("b", 1, 10, 1, ((0, 7, 1),)), ("c", 1, 12, 1, ((0, 4, 1),))),
            (clock(0, 0, "c"),)
        ))

    def test_very_large_numbers(self):
        plan = (HUGE, (("a", -HUGE, HUGE, 1),))
        letters = [read(1, HUGE * HUGE + 1, 0, HUGE), close(1, HUGE * HUGE + 2, 1)]
        self.assert_joined(letters, [close(1, HUGE ** 3, 1), read(HUGE, HUGE ** 4)], plan=plan)

    def test_any_order_and_any_tree(self):
        choices = random.Random(13)
        for _ in range(300):
            plan = random_plan(choices)
            letters = true_letters(choices, random_history(choices, plan))
            bags = [[letter for letter in letters if choices.random() < 0.6] for _ in range(choices.randint(1, 4))]
            bags.append([letter for letter in letters if not any(letter in bag for bag in bags)])
            choices.shuffle(bags)
            self.assert_joined(*bags, plan=plan)

    def test_told_after_a_join(self):
        choices = random.Random(14)
        for _ in range(60):
            plan = random_plan(choices)
            letters = true_letters(choices, random_history(choices, plan))
            cut = choices.randint(0, len(letters))
            form = join_folded(plan, folded(plan, letters[:cut]), folded(plan, letters[cut:]))
            names = tuple(meter[0] for meter in plan[1])
            for aggregate in AGGREGATES:
                for window in range(-3, 4):
                    self.assertEqual(told_folded(plan, form, aggregate, names, window),
                                     told(plan, letters, aggregate, names, window))

    def test_forms_that_are_passed_stay_as_they_were(self):
        one, other = folded(PLAN, [read(1, 3), close(1, 9, 1)]), folded(PLAN, [read(2, 12), close(2, 13, 2)])
        join_folded(PLAN, one, other)
        self.assertEqual(one, ((("a", 1, 9, 1, ((0, 1, 1),)),), ()))
        self.assertEqual(other, ((), (close(2, 13, 2), read(2, 12))))
        self.assertEqual(offsets_left(PLAN, other[1], "a"), (-2, 2))
