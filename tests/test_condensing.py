"""Points [28] and [29]: condensed forms and their joins."""

import random

from tests.forms import AGGREGATES, Forms, plain_condensed, random_history, random_plan, true_letters
from tests.support import HUGE, assert_raises_only
from toldwhensure.condensing import condensed, joined
from toldwhensure.possible import is_possible
from toldwhensure.segments import inside, offsets_left, runs_of, segments_of
from toldwhensure.telling import told

PLAN = (10, (("a", 0, 5, 2), ("b", -3, 9, 0), ("c", 4, 4, 60)))


def read(slot, stamp, version=0, value=1, name="a"):
    return ("read", name, slot, version, stamp, value)


def close(slots, stamp, versions, name="a"):
    return ("close", name, slots, stamp, versions)


def clock(low, high, name="a"):
    return ("clock", name, low, high)


class Condensed(Forms):
    def assert_condensed(self, letters, *form, plan=PLAN):
        found = self.form_of(lambda bag: condensed(plan, bag), letters)
        self.assertEqual(found, form)
        self.assertEqual(plain_condensed(plan, letters), form)
        # The form of the form.
        self.assertEqual(condensed(plan, found), form)
        self.assertEqual(condensed(plan, list(letters) + list(found)), form)

    def test_the_empty_bag(self):
        self.assert_condensed(())

    def test_the_known_version_stays(self):
        self.assert_condensed([read(1, 3)], read(1, 3))
        self.assert_condensed([read(1, 3), read(1, 3, 1, 5)], read(1, 3, 1, 5))
        self.assert_condensed([read(1, 3, 4, 0), read(1, 3, 1, 5), read(1, 3, 2, None)], read(1, 3, 4, 0))
        self.assert_condensed([read(2, 3, 10), read(2, 3, 9, 4)], read(2, 3, 10))

    def test_none_as_a_known_value(self):
        self.assert_condensed([read(1, 3, 1, None)], read(1, 3, 1, None))
        self.assert_condensed([read(1, 3), read(1, 3, 1, None)], read(1, 3, 1, None))
        self.assert_condensed([read(1, 3, 2, None), read(1, 3, 1, 5)], read(1, 3, 2, None))
        self.assert_condensed(
            [read(2, 3, 1, None), read(1, 3, 1, None), read(3, 3, 1, 0)],
            read(1, 3, 1, None), read(2, 3, 1, None), read(3, 3, 1, 0)
        )

    def test_each_slot_has_its_own_version(self):
        self.assert_condensed(
            [read(2, 3), read(1, 3), read(2, 3, 1), read(10, 4), read(3, 3, 3)],
            read(1, 3), read(2, 3, 1), read(3, 3, 3), read(10, 4)
        )

    def test_numbers_of_slots_with_one_stamp(self):
        self.assert_condensed([close(2, 9, 3)], close(2, 9, 3))
        self.assert_condensed([close(2, 9, 3), close(1, 5, 1)], close(1, 5, 1), close(2, 9, 3))

    def test_numbers_of_slots_with_several_stamps(self):
        self.assert_condensed([close(2, 9, 3), close(2, 7, 3)], close(2, 7, 3), close(2, 9, 3))
        self.assert_condensed([close(2, 9, 3), close(2, 8, 3), close(2, 7, 3)], close(2, 7, 3), close(2, 9, 3))
        self.assert_condensed(
            [close(2, -9, 3), close(2, -7, 3), close(2, -8, 3), close(3, -5, 4), close(3, 10, 4), close(3, 9, 4)],
            close(2, -9, 3), close(2, -7, 3), close(3, -5, 4), close(3, 10, 4)
        )

    def test_0_slots(self):
        self.assert_condensed([close(0, 5, 0)], close(0, 5, 0))
        self.assert_condensed([close(0, 5, 0), close(0, 9, 0)], close(0, 9, 0))
        self.assert_condensed([close(0, -5, 0), close(0, -9, 0), close(0, -7, 0)], close(0, -5, 0))
        self.assert_condensed([close(1, 9, 1), close(0, 0, 0), close(0, 5, 0)], close(0, 5, 0), close(1, 9, 1))

    def test_clock_letters(self):
        self.assert_condensed([clock(-1, 1)], clock(-1, 1))
        self.assert_condensed([clock(-1, 2), clock(-2, 1)], clock(-1, 1))
        self.assert_condensed([clock(1, 2), clock(-2, 1)], clock(1, 1))
        self.assert_condensed([clock(-50, 1)], clock(-2, 1))
        self.assert_condensed([clock(-50, HUGE)], clock(-2, 2))
        self.assert_condensed([clock(-HUGE, 30, "b")], clock(0, 0, "b"))
        self.assert_condensed([clock(-50, 61, "c"), clock(-90, 20, "c")], clock(-50, 20, "c"))

    def test_no_clock_letters(self):
        self.assert_condensed([read(1, 3, 0, 1, "b"), clock(0, 1)], clock(0, 1), read(1, 3, 0, 1, "b"))

    def test_several_meters(self):
        self.assert_condensed(
            [read(1, 3), read(1, 3, 1, 9, "b"), read(1, 3, 0, 7, "b"), close(1, 4, 1), close(1, 5, 3, "b"),
             close(1, 7, 3, "b"), clock(0, 0, "b"), clock(-90, 1, "c")],
            clock(0, 0, "b"), clock(-60, 1, "c"), close(1, 4, 1), close(1, 5, 3, "b"), close(1, 7, 3, "b"),
            read(1, 3), read(1, 3, 1, 9, "b")
        )

    def test_letters_twice(self):
        self.assert_condensed([read(1, 3), read(1, 3)], read(1, 3))
        self.assert_condensed([close(1, 9, 1), close(1, 9, 1), clock(0, 0), clock(0, 0)], clock(0, 0), close(1, 9, 1))

    def test_ascending_order_as_tuples(self):
        # Neither the kinds nor the meters come in the order in which the document and the plan have them.
        self.assert_condensed(
            [read(1, 3), close(1, 4, 1), clock(0, 0), read(1, 3, 0, 4, "c"), close(1, 9, 1, "b"), clock(0, 0, "b")],
            clock(0, 0), clock(0, 0, "b"), close(1, 4, 1), close(1, 9, 1, "b"), read(1, 3), read(1, 3, 0, 4, "c")
        )
        # Numbers compare as numbers.
        self.assert_condensed(
            [read(10, 30), read(9, -2), read(2, -10), close(10, 31, 12), close(9, 3, 11), close(9, 12, 11)],
            close(9, 3, 11), close(9, 12, 11), close(10, 31, 12), read(2, -10), read(9, -2), read(10, 30)
        )

    def test_very_large_numbers(self):
        plan = (HUGE, (("a", -HUGE, HUGE, HUGE),))
        self.assert_condensed(
            [read(HUGE, HUGE, HUGE, -HUGE), read(HUGE, HUGE, 0, HUGE), close(HUGE + 1, HUGE + 9, 3 * HUGE),
             close(HUGE + 1, 2 * HUGE, 3 * HUGE), clock(3, 2 * HUGE)],
            clock(3, HUGE), close(HUGE + 1, HUGE + 9, 3 * HUGE), close(HUGE + 1, 2 * HUGE, 3 * HUGE),
            read(HUGE, HUGE, HUGE, -HUGE), plan=plan
        )

    def test_not_possible(self):
        for letters in ([read(1, 3, 0, None)], [read(1, 3), read(1, 4, 1)], [clock(1, 1, "b")], [close(1, 3, 0)]):
            for bag in (letters, tuple(letters), [read(1, 9, name="b")] + letters):
                assert_raises_only(self, "NotPossible", condensed, PLAN, bag)

    def test_the_same_follows_from_the_form(self):
        choices = random.Random(7)
        for _ in range(150):
            plan = random_plan(choices)
            letters = true_letters(choices, random_history(choices, plan))
            form = condensed(plan, letters)
            self.assertEqual(form, plain_condensed(plan, letters))
            self.assertEqual(condensed(plan, form[::-1]), form)
            for meter in plan[1]:
                for call in (offsets_left, segments_of, runs_of):
                    self.assertEqual(call(plan, form, meter[0]), call(plan, letters, meter[0]))
                for offset in (-meter[3], 0, meter[3]):
                    for window in range(-2, 4):
                        self.assertEqual(inside(plan, form, meter[0], offset, window),
                                         inside(plan, letters, meter[0], offset, window))
            names = tuple(meter[0] for meter in plan[1])
            for aggregate in AGGREGATES:
                for window in range(-2, 4):
                    self.assertEqual(told(plan, form, aggregate, names, window),
                                     told(plan, letters, aggregate, names, window))


class Joined(Forms):
    def assert_joined(self, one, other, *form, plan=PLAN):
        for call in (lambda bag: joined(plan, bag, other), lambda bag: joined(plan, other, bag)):
            self.assertEqual(self.form_of(call, one), form)
        for call in (lambda bag: joined(plan, bag, one), lambda bag: joined(plan, one, bag)):
            self.assertEqual(self.form_of(call, other), form)
        # Forms in the place of bags.
        self.assertEqual(joined(plan, condensed(plan, one), other), form)
        self.assertEqual(joined(plan, one, condensed(plan, other)), form)
        self.assertEqual(joined(plan, condensed(plan, one), condensed(plan, other)), form)
        # Joined twice.
        self.assertEqual(joined(plan, form, other), form)
        self.assertEqual(joined(plan, one, form), form)
        self.assertEqual(joined(plan, form, form), form)

    def test_no_letters(self):
        self.assert_joined((), ())
        self.assert_joined([read(1, 3), read(1, 3, 1)], (), read(1, 3, 1))

    def test_without_common_letters(self):
        self.assert_joined([read(1, 3)], [read(2, 5), clock(0, 1)], clock(0, 1), read(1, 3), read(2, 5))
        self.assert_joined([read(1, 3)], [read(1, 5, name="b")], read(1, 3), read(1, 5, name="b"))

    def test_common_letters(self):
        self.assert_joined([read(1, 3), close(1, 9, 1)], [close(1, 9, 1), read(1, 3)], close(1, 9, 1), read(1, 3))

    def test_what_one_knows_of_the_same_things(self):
        self.assert_joined([read(1, 3), read(2, 4, 2)], [read(1, 3, 1, None), read(2, 4, 1)],
                           read(1, 3, 1, None), read(2, 4, 2))
        self.assert_joined([close(1, 9, 1), close(1, 7, 1)], [close(1, 6, 1), close(1, 8, 1)],
                           close(1, 6, 1), close(1, 9, 1))
        self.assert_joined([close(0, 3, 0)], [close(0, 6, 0)], close(0, 6, 0))
        self.assert_joined([clock(-1, 9), clock(-9, 2)], [clock(-2, 1)], clock(-1, 1))
        self.assert_joined([clock(0, 9)], [read(1, 3)], clock(0, 2), read(1, 3))

    def test_not_possible(self):
        for one, other in (
            ([read(1, 3)], [read(1, 4)]), ([read(1, 3)], [read(1, 3, 0, 2)]), ([read(1, 3)], [close(1, 3, 1)]),
            ([clock(0, 1)], [clock(-1, -1)]), ([close(1, 4, 1)], [close(1, 6, 2)]), ([close(1, 4, 2)], [close(2, 9, 2)]),
        ):
            self.assertTrue(is_possible(PLAN, one) and is_possible(PLAN, other))
            assert_raises_only(self, "NotPossible", joined, PLAN, one, other)
            assert_raises_only(self, "NotPossible", joined, PLAN, tuple(other), tuple(one))
            assert_raises_only(self, "NotPossible", joined, PLAN, condensed(PLAN, one), condensed(PLAN, other))
        bad = [read(1, 3, 0, None)]
        for one, other in ((bad, ()), ((), bad), (bad, bad), (bad, [read(1, 3)])):
            assert_raises_only(self, "NotPossible", joined, PLAN, one, other)

    def test_any_order_and_any_tree(self):
        choices = random.Random(8)
        for _ in range(150):
            plan = random_plan(choices)
            letters = true_letters(choices, random_history(choices, plan))
            form = condensed(plan, letters)
            bags = [[letter for letter in letters if choices.random() < 0.4] for _ in range(4)] + [letters[::2]]
            bags.append([letter for letter in letters if not any(letter in bag for bag in bags)])
            if choices.random() < 0.5:
                bags = [condensed(plan, bag) for bag in bags]
            while len(bags) > 1:
                choices.shuffle(bags)
                one, other = bags.pop(), bags.pop()
                bags.append(joined(plan, one, other))
                self.assertEqual(joined(plan, other, one), bags[-1])
                self.assertEqual(joined(plan, bags[-1], choices.choice((one, other))), bags[-1])
            self.assertEqual(bags[0], form)
