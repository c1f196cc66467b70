"""Points [10], [44] and [45]: sources, their logs and the letters that they make."""

import random
import unittest

from tests.support import HUGE, assert_raises_only
from toldwhensure.histories import agrees, is_history, reads_of
from toldwhensure.letters import check_letter
from toldwhensure.sources import Source

PLAN = (10, (("a", -1, 5, 2), ("b", 4, 4, 0), ("c", -HUGE, HUGE, 60)))


def read(slot, stamp, version=0, value=1, name="a"):
    return ("read", name, slot, version, stamp, value)


def close(slots, stamp, versions, name="a"):
    return ("close", name, slots, stamp, versions)


def clock(low, high, name="a"):
    return ("clock", name, low, high)


class Sources(unittest.TestCase):
    def assert_refused(self, source, error, call, *arguments):
        """The deed raises this error and changes nothing."""
        before = source.log(), source.due()
        assert_raises_only(self, error, call, *arguments)
        self.assertEqual((source.log(), source.due()), before)

    def assert_refused_entry(self, source, call, *arguments):
        self.assert_refused(source, "InvalidEntry", call, *arguments)

    def with_slots(self, *stamps):
        source = Source(PLAN, "a", 1)
        for stamp in stamps:
            source.record(stamp, 1)
        return source


class Logs(Sources):
    def test_a_new_one(self):
        for name, offset in (("a", 0), ("a", -2), ("a", 2), ("b", 0), ("c", 60)):
            source = Source(PLAN, name, offset)
            self.assertEqual(source.log(), (name, offset, ()))
            self.assertEqual(source.due(), ())

    def test_record(self):
        source = Source(PLAN, "a", -2)
        self.assertEqual(source.record(3, 1), 1)
        self.assertEqual(source.log(), ("a", -2, ((3, (1,)),)))
        self.assertEqual(source.due(), (read(1, 3),))
        self.assertEqual(source.record(7, 0), 2)
        self.assertEqual(source.log(), ("a", -2, ((3, (1,)), (7, (0,)))))
        self.assertEqual(source.due(), (read(1, 3), read(2, 7, 0, 0)))

    def test_record_at_any_first_stamp(self):
        for stamp in (-HUGE, -7, 0, HUGE):
            source = Source(PLAN, "a", 0)
            self.assertEqual(source.record(stamp, 1), 1)
            self.assertEqual(source.due(), (read(1, stamp),))

    def test_record_at_the_stamp_of_the_slot_before(self):
        source = self.with_slots(3)
        self.assert_refused_entry(source, source.record, 2, 1)
        self.assert_refused_entry(source, source.record, -HUGE, 1)
        self.assertEqual(source.record(3, 5), 2)
        self.assertEqual(source.record(3, 4), 3)
        self.assertEqual(source.log()[2], ((3, (1,)), (3, (5,)), (3, (4,))))
        self.assert_refused_entry(source, source.record, 2, 1)
        self.assertEqual(source.record(4, 4), 4)

    def test_record_at_the_closed_stamp(self):
        source = self.with_slots(3)
        source.close(8)
        self.assert_refused_entry(source, source.record, 7, 1)
        self.assert_refused_entry(source, source.record, 3, 1)
        self.assertEqual(source.record(8, 1), 2)
        source = self.with_slots()
        source.close(-5)
        self.assert_refused_entry(source, source.record, -6, 1)
        self.assertEqual(source.record(-5, 1), 1)
        # The slot before may be later than the closed stamp.
        source.record(9, 1)
        source.close(2)
        self.assert_refused_entry(source, source.record, 8, 1)
        self.assertEqual(source.record(9, 1), 3)

    def test_values(self):
        source = self.with_slots(3)
        for value in (-2, 6, HUGE, -HUGE):
            self.assert_refused_entry(source, source.record, 3, value)
            self.assert_refused_entry(source, source.correct, 1, value)
        self.assertEqual([source.record(3, value) for value in (-1, 0, 5)], [2, 3, 4])
        source.correct(1, -1)
        source.correct(1, 5)
        self.assertEqual(source.log()[2][0], (3, (1, -1, 5)))
        source = Source(PLAN, "b", 0)
        for value in (3, 5):
            self.assert_refused_entry(source, source.record, 3, value)
        source.record(3, 4)
        source = Source(PLAN, "c", 0)
        for value in (-HUGE - 1, HUGE + 1):
            self.assert_refused_entry(source, source.record, 3, value)
        source.record(HUGE, HUGE)
        source.correct(1, -HUGE)
        self.assertEqual(source.log(), ("c", 0, ((HUGE, (HUGE, -HUGE)),)))

    def test_correct(self):
        source = self.with_slots(3, 7)
        self.assertIsNone(source.correct(1, 4))
        self.assertIsNone(source.correct(1, 4))
        self.assertIsNone(source.correct(2, 0))
        self.assertEqual(source.log(), ("a", 1, ((3, (1, 4, 4)), (7, (1, 0)))))
        self.assertEqual(source.due(), (read(1, 3), read(2, 7), read(1, 3, 1, 4), read(1, 3, 2, 4), read(2, 7, 1, 0)))

    def test_take_back(self):
        source = self.with_slots(3, 7)
        self.assertIsNone(source.take_back(2))
        self.assertIsNone(source.take_back(2))
        source.correct(2, 5)
        self.assertEqual(source.log(), ("a", 1, ((3, (1,)), (7, (1, None, None, 5)))))
        self.assertEqual(source.due()[2:], (read(2, 7, 1, None), read(2, 7, 2, None), read(2, 7, 3, 5)))

    def test_slots_that_there_are_not(self):
        source = self.with_slots(3, 7)
        for slot in (0, 3, -1, 4, HUGE, -HUGE):
            self.assert_refused(source, "NoSlot", source.correct, slot, 1)
            self.assert_refused(source, "NoSlot", source.take_back, slot)
            # Where two things are wrong.
            self.assert_refused(source, "NoSlot", source.correct, slot, 6)
        source.close(9)
        for slot in (0, 3, -1, HUGE):
            self.assert_refused(source, "NoSlot", source.correct, slot, 6)
            self.assert_refused(source, "NoSlot", source.take_back, slot)
        source = self.with_slots()
        for slot in (0, 1):
            self.assert_refused(source, "NoSlot", source.correct, slot, 1)
            self.assert_refused(source, "NoSlot", source.take_back, slot)

    def test_closed_slots(self):
        source = self.with_slots(3, 7, 9, 12)
        source.close(9)
        for slot in (1, 2):
            self.assert_refused(source, "Closed", source.correct, slot, 1)
            self.assert_refused(source, "Closed", source.take_back, slot)
            # Where two things are wrong.
            self.assert_refused(source, "Closed", source.correct, slot, 6)
        self.assert_refused_entry(source, source.correct, 3, 6)
        source.correct(3, 2)
        source.take_back(4)
        self.assertEqual(source.log()[2], ((3, (1,)), (7, (1,)), (9, (1, 2)), (12, (1, None))))
        # Later slots are open until the next close.
        source.record(20, 1)
        source.take_back(5)
        source.close(13)
        self.assert_refused(source, "Closed", source.take_back, 4)
        source.take_back(5)

    def test_check(self):
        source = Source(PLAN, "a", 1)
        for low, high in ((1, 1), (0, 1), (1, 2), (-HUGE, HUGE), (-2, 2)):
            self.assertIsNone(source.check(low, high))
        self.assertEqual(source.due(), (clock(1, 1), clock(0, 1), clock(1, 2), clock(-HUGE, HUGE), clock(-2, 2)))
        for low, high in ((2, 2), (2, 9), (0, 0), (-9, 0), (2, 0), (1, 0), (2, 1), (HUGE, -HUGE), (HUGE, HUGE)):
            self.assert_refused_entry(source, source.check, low, high)
        self.assertEqual(source.log(), ("a", 1, ()))

    def test_logs_that_were_returned_stay(self):
        source = self.with_slots(3)
        before = source.log()
        source.correct(1, 5)
        source.record(4, 0)
        self.assertEqual(before, ("a", 1, ((3, (1,)),)))
        self.assertEqual(source.log(), ("a", 1, ((3, (1, 5)), (4, (0,)))))

    def test_two_sources_do_not_touch_each_other(self):
        one, other = self.with_slots(3), self.with_slots(4, 5)
        one.close(9)
        one.check(1, 1)
        other.take_back(1)
        other.record(5, 2)
        self.assertEqual(one.due(), (read(1, 3), close(1, 9, 1), clock(1, 1)))
        self.assertEqual(other.due(), (read(1, 4), read(2, 5), read(1, 4, 1, None), read(3, 5, 0, 2)))


class Closing(Sources):
    def last_letter(self, source, stamp):
        self.assertIsNone(source.close(stamp))
        return source.due()[-1]

    def test_above_between_and_below_the_stamps(self):
        stamps = (3, 5, 5, 5, 8)
        for stamp, slots in ((-HUGE, 0), (2, 0), (3, 0), (4, 1), (5, 1), (6, 4), (8, 4), (9, 5), (HUGE, 5)):
            self.assertEqual(self.last_letter(self.with_slots(*stamps), stamp), close(slots, stamp, slots))

    def test_without_slots(self):
        for stamp in (-HUGE, -3, 0, 5, HUGE):
            self.assertEqual(self.last_letter(self.with_slots(), stamp), close(0, stamp, 0))

    def test_versions(self):
        source = self.with_slots(3, 5, 8)
        source.correct(1, 4)
        source.take_back(3)
        source.take_back(1)
        self.assertEqual(self.last_letter(source, 3), close(0, 3, 0))
        self.assertEqual(self.last_letter(source, 4), close(1, 4, 3))
        self.assertEqual(self.last_letter(source, 8), close(2, 8, 4))
        source.correct(3, 0)
        self.assertEqual(self.last_letter(source, 9), close(3, 9, 7))

    def test_at_the_closed_stamp_again_and_below(self):
        source = self.with_slots(3, 5)
        source.close(4)
        self.assert_refused_entry(source, source.close, 3)
        self.assert_refused_entry(source, source.close, -HUGE)
        before = source.due()
        source.close(4)
        self.assertEqual(source.due(), before)
        source.acknowledge(close(1, 4, 1))
        self.assertEqual(self.last_letter(source, 4), close(1, 4, 1))
        self.assertEqual(self.last_letter(source, 5), close(1, 5, 1))
        self.assert_refused_entry(source, source.close, 4)
        self.assertEqual(self.last_letter(source, 6), close(2, 6, 2))
        # The closed slots did not become fewer on the way.
        self.assert_refused(source, "Closed", source.take_back, 2)

    def test_slots_from_the_closed_stamp_on_stay_open(self):
        source = self.with_slots(3, 5)
        source.close(5)
        source.correct(2, 4)
        source.record(5, 2)
        source.correct(3, 0)
        self.assertIn(close(1, 5, 1), source.due())
        source.acknowledge(close(1, 5, 1))
        # The closed stamp again: slots with this stamp are not before it.
        self.assertEqual(self.last_letter(source, 5), close(1, 5, 1))
        self.assertEqual(self.last_letter(source, 6), close(3, 6, 5))
        for slot in (1, 2, 3):
            self.assert_refused(source, "Closed", source.correct, slot, 1)


class Due(Sources):
    def test_the_order_in_which_they_were_made(self):
        source = Source(PLAN, "a", 1)
        source.check(0, 1)
        source.record(3, 1)
        source.record(5, 2)
        source.close(5)
        source.correct(2, 4)
        source.check(-5, 5)
        source.take_back(2)
        source.close(9)
        self.assertEqual(source.due(), (
            clock(0, 1), read(1, 3), read(2, 5, 0, 2), close(1, 5, 1), read(2, 5, 1, 4), clock(-5, 5),
            read(2, 5, 2, None), close(2, 9, 4)
        ))

    def test_acknowledged_letters_are_not_due(self):
        source = self.with_slots(3, 5, 8)
        self.assertIsNone(source.acknowledge(read(2, 5)))
        self.assertEqual(source.due(), (read(1, 3), read(3, 8)))
        source.acknowledge(read(3, 8))
        source.acknowledge(read(1, 3))
        self.assertEqual(source.due(), ())
        source.record(9, 1)
        self.assertEqual(source.due(), (read(4, 9),))
        self.assertEqual(len(source.log()[2]), 4)

    def test_a_letter_that_is_due_is_made_again(self):
        source = self.with_slots(3)
        source.check(0, 1)
        source.close(9)
        source.check(1, 1)
        before = source.due()
        source.check(0, 1)
        source.close(9)
        self.assertEqual(source.due(), before)
        # A letter with other numbers is another one.
        source.check(0, 2)
        self.assertEqual(source.due(), before + (clock(0, 2),))

    def test_an_acknowledged_letter_is_made_again(self):
        source = self.with_slots(3)
        source.check(0, 1)
        source.close(9)
        source.acknowledge(clock(0, 1))
        self.assertEqual(source.due(), (read(1, 3), close(1, 9, 1)))
        source.check(0, 1)
        self.assertEqual(source.due(), (read(1, 3), close(1, 9, 1), clock(0, 1)))
        source.acknowledge(close(1, 9, 1))
        source.close(9)
        self.assertEqual(source.due(), (read(1, 3), clock(0, 1), close(1, 9, 1)))
        source.acknowledge(clock(0, 1))
        source.acknowledge(close(1, 9, 1))
        self.assertEqual(source.due(), (read(1, 3),))

    def test_letters_that_are_not_due(self):
        source = self.with_slots(3, 5)
        source.check(0, 1)
        source.acknowledge(read(1, 3))
        before = source.due()
        for letter in (
            # Not any more, and never made.
            read(1, 3), read(2, 5, 0, 2), read(2, 6), read(2, 5, 1, None), read(2, 5, name="b"), close(2, 9, 2),
            clock(0, 1, "b"), clock(1, 1), read(HUGE, -HUGE),
        ):
            self.assertIsNone(source.acknowledge(letter))
            self.assertEqual(source.due(), before)

    def test_results_stay_as_they_are(self):
        source = self.with_slots(3, 5)
        before = source.due()
        source.acknowledge(read(1, 3))
        source.record(7, 1)
        self.assertEqual(before, (read(1, 3), read(2, 5)))
        self.assertIs(before.__class__, tuple)


class RandomDeeds(Sources):
    def deed(self, choices, source):
        """Do some deed that is right, and return the letters that are due by it alone."""
        for letter in source.due():
            source.acknowledge(letter)
        _, offset, slots = source.log()
        last = slots[-1][0] if slots else 0
        choice = choices.randrange(5)
        if choice == 0 or (choice < 3 and not self.open_slots(source)):
            source.record(max(last, self.closed) + choices.choice((0, 0, 1, 4)), choices.randint(-1, 5))
        elif choice == 1:
            source.correct(choices.choice(self.open_slots(source)), choices.randint(-1, 5))
        elif choice == 2:
            source.take_back(choices.choice(self.open_slots(source)))
        elif choice == 3:
            self.closed += choices.choice((0, 1, 3))
            source.close(self.closed)
        else:
            source.check(offset - choices.randint(0, 3), offset + choices.randint(0, 3))
        self.assertEqual(len(source.due()), 1)
        return source.due()

    def open_slots(self, source):
        return [slot for slot, (stamp, versions) in enumerate(source.log()[2], start=1) if stamp >= self.closed]

    def test_each_letter_is_true_then_and_later(self):
        choices = random.Random(16)
        plan = PLAN[0], PLAN[1][:1]
        for _ in range(60):
            source = Source(plan, "a", choices.randint(-2, 2))
            self.closed = -3
            source.close(-3)
            letters = list(source.due())
            for _ in range(40):
                letters += self.deed(choices, source)
                history = (source.log(),)
                self.assertIs(is_history(plan, history), True)
                self.assertIs(agrees(history, letters), True)
                # Each version is told by one letter.
                reads = [letter for letter in letters if letter[0] == "read"]
                self.assertEqual(sorted(reads, key=lambda letter: letter[2:4]), list(reads_of(history)))
            for letter in letters:
                check_letter(plan, letter)
