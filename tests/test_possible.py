"""Points [12], [27] and the limits of [20] to [22]: which bags are possible."""

import copy
import itertools
import random
import unittest

from toldwhensure.histories import reads_of
from toldwhensure.possible import is_possible
from tests.brute import Truth, all_histories
from tests.support import HUGE

PLAN = (10, (("a", 0, 5, 2), ("aa", -3, 9, 0), ("b", -3, 9, 0), ("c", 4, 4, 60), ("d", 4, 4, 60)))
# Letters about two other meters, which are true together.
OTHERS = (
    ("read", "aa", 2, 1, 7, None), ("close", "aa", 3, 9, 5), ("clock", "d", -3, 5), ("read", "d", 1, 0, HUGE, 4),
)


def read(slot, stamp, version=0, value=1):
    return ("read", "a", slot, version, stamp, value)


def close(slots, stamp, versions):
    return ("close", "a", slots, stamp, versions)


class Possible(unittest.TestCase):
    def assert_possible(self, *letters):
        self.assert_each_way(True, letters)

    def assert_impossible(self, *letters):
        self.assert_each_way(False, letters)

    def assert_each_way(self, truth, letters):
        """The order, duplicates, lists or tuples, and letters about other meters play no part."""
        self.assertIs(is_possible(PLAN, letters), truth)
        self.assertIs(is_possible(PLAN, list(letters)), truth)
        self.assertIs(is_possible(PLAN, letters[::-1]), truth)
        self.assertIs(is_possible(PLAN, letters + letters), truth)
        self.assertIs(is_possible(PLAN, OTHERS[:2] + letters + OTHERS[2:]), truth)

    def test_the_empty_bag(self):
        self.assert_possible()

    def test_values_of_the_meter(self):
        for version in (0, 1, 7):
            for value in (0, 1, 5):
                self.assert_possible(read(2, 3, version, value))
            for value in (-1, 6, HUGE, -HUGE):
                self.assert_impossible(read(2, 3, version, value))
        self.assert_possible(("read", "b", 1, 0, 3, -3), ("read", "b", 2, 0, 3, 9))
        self.assert_impossible(("read", "b", 1, 0, 3, -4))
        self.assert_impossible(("read", "b", 1, 0, 3, 10))
        self.assert_impossible(("read", "c", 1, 0, 3, 5))
        self.assert_impossible(("read", "c", 1, 0, 3, 3))

    def test_none(self):
        self.assert_impossible(read(2, 3, 0, None))
        self.assert_possible(read(2, 3, 1, None))
        self.assert_possible(read(2, 3, 1, None), read(2, 3, 2, None), read(2, 3, 0, 5))

    def test_stamps_of_one_slot(self):
        self.assert_possible(read(2, 3), read(2, 3, 1))
        self.assert_impossible(read(2, 3), read(2, 4, 1))
        self.assert_impossible(read(2, 3), read(2, 4))
        self.assert_impossible(read(1, 1), read(2, 4), read(2, 3), read(3, 7))
        self.assert_impossible(read(2, HUGE), read(2, HUGE + 1, 1))

    def test_values_of_one_version(self):
        self.assert_possible(read(2, 3, 0, 4), read(2, 3, 1, 5), read(3, 3, 0, 5))
        self.assert_impossible(read(2, 3, 0, 4), read(2, 3, 0, 5))
        self.assert_impossible(read(2, 3, 2, 4), read(2, 3, 2, None))
        self.assert_impossible(read(2, 3, 2, None), read(2, 3, 2, 0))
        self.assert_possible(read(2, 3, 2, None), read(2, 3, 2, None))

    def test_falling_stamps(self):
        self.assert_possible(read(1, 3), read(2, 3), read(5, 3), read(6, 4))
        self.assert_impossible(read(1, 3), read(2, 2))
        self.assert_impossible(read(1, 3), read(7, 2))
        self.assert_impossible(read(1, 3), read(4, 5), read(7, 4))
        self.assert_impossible(read(1, HUGE), read(2, HUGE - 1))
        # In a segment, too.
        self.assert_impossible(read(1, 3), read(3, 2), close(4, 9, 4))
        self.assert_possible(read(1, 3), read(3, 3), close(4, 9, 4))

    def test_slots_compare_as_numbers(self):
        self.assert_possible(read(9, 3), read(10, 4), read(100, 5))
        self.assert_impossible(read(9, 4), read(10, 3))
        self.assert_impossible(read(9, 4), read(100, 3))

    def test_offsets(self):
        def clock(low, high):
            return ("clock", "a", low, high)
        self.assert_possible(clock(2, 9))
        self.assert_possible(clock(-9, -2))
        self.assert_possible(clock(-HUGE, HUGE))
        self.assert_possible(clock(-1, 1), clock(1, 2))
        self.assert_impossible(clock(3, 9))
        self.assert_impossible(clock(-9, -3))
        self.assert_impossible(clock(1, 0))
        self.assert_impossible(clock(HUGE, -HUGE))
        self.assert_impossible(clock(-1, 0), clock(1, 2))
        self.assert_impossible(clock(-2, 1), clock(0, 2), clock(-2, -1))
        self.assert_impossible(("clock", "b", 1, 1))
        self.assert_possible(("clock", "b", 0, 0))

    def test_different_numbers_of_versions(self):
        self.assert_possible(close(3, 9, 5), close(3, 8, 5))
        self.assert_impossible(close(3, 9, 5), close(3, 8, 6))
        self.assert_impossible(close(3, 9, 5), close(3, 9, 4))
        self.assert_possible(close(3, 9, 5), close(4, 10, 6))

    def test_versions_after_no_slots(self):
        self.assert_possible(close(0, 9, 0))
        self.assert_possible(close(0, 9, 0), close(0, 10, 0))
        self.assert_impossible(close(0, 9, 1))
        self.assert_impossible(close(0, 9, 0), close(0, 10, 1))
        self.assert_impossible(close(0, 9, HUGE))

    def test_floors_and_ceilings_of_neighbours(self):
        self.assert_possible(close(2, 8, 2), close(3, 9, 3))
        self.assert_impossible(close(2, 9, 2), close(3, 9, 3))
        self.assert_impossible(close(2, 10, 2), close(3, 9, 3))
        # The floor is the greatest stamp of the one, the ceiling the least stamp of the other.
        self.assert_possible(close(2, 1, 2), close(2, 8, 2), close(3, 9, 3), close(3, 20, 3))
        self.assert_impossible(close(2, 1, 2), close(2, 9, 2), close(3, 9, 3), close(3, 20, 3))

    def test_floors_and_ceilings_from_0_on(self):
        self.assert_possible(close(0, 8, 0), close(3, 9, 3))
        self.assert_impossible(close(0, 9, 0), close(3, 9, 3))
        self.assert_impossible(close(0, 10, 0), close(3, 9, 3))
        self.assert_possible(close(0, 8, 0), close(0, -5, 0), close(3, 9, 3))

    def test_floors_and_ceilings_of_the_same_number(self):
        self.assert_possible(close(2, 8, 2), close(2, HUGE, 2))
        self.assert_possible(close(0, 8, 0), close(0, HUGE, 0))

    def test_floors_and_ceilings_of_numbers_farther_apart(self):
        self.assert_impossible(close(1, 9, 1), close(3, 12, 3), close(7, 9, 7))
        self.assert_impossible(close(1, 5, 1), close(3, 12, 3), close(7, 9, 7))
        self.assert_impossible(close(0, 9, 0), close(3, 12, 3), close(7, 9, 7))
        self.assert_possible(close(1, 5, 1), close(3, 8, 3), close(7, 9, 7))

    def test_stamps_at_the_ceiling(self):
        for slot in (1, 2, 3):
            self.assert_possible(read(slot, 8), close(3, 9, 3))
            self.assert_impossible(read(slot, 9), close(3, 9, 3))
            self.assert_impossible(read(slot, 10), close(3, 9, 3))
            self.assert_impossible(read(slot, 8), close(3, 9, 3), close(3, 8, 3))
            self.assert_impossible(read(slot, HUGE), close(3, 9, 3))

    def test_stamps_at_the_floor(self):
        for slot in (4, 5, 6):
            limits = (close(3, 9, 3), close(6, 20, 6))
            self.assert_possible(read(slot, 9), *limits)
            self.assert_impossible(read(slot, 8), *limits)
            self.assert_impossible(read(slot, 9), close(3, 10, 3), *limits)
            self.assert_possible(read(slot, 19), *limits)
            self.assert_impossible(read(slot, 20), *limits)

    def test_stamps_at_the_floor_of_0(self):
        for limits in ((close(0, 9, 0),), (close(0, 9, 0), close(3, 20, 3)), (close(0, 9, 0), close(0, -9, 0))):
            for slot in (1, 2, 3):
                self.assert_possible(read(slot, 9), *limits)
                self.assert_possible(read(slot, 10), *limits)
                self.assert_impossible(read(slot, 8), *limits)

    def test_stamps_in_the_tail(self):
        limits = (close(1, 2, 1), close(3, 9, 3), close(3, 11, 3))
        for slot in (4, 5, 400):
            self.assert_possible(read(slot, 11), *limits)
            self.assert_possible(read(slot, HUGE), *limits)
            self.assert_impossible(read(slot, 10), *limits)
            self.assert_impossible(read(slot, -HUGE), *limits)
        self.assert_impossible(read(4, 12), read(5, 11), *limits)

    def test_hidden_versions_of_missing_slots(self):
        self.assert_possible(close(3, 9, 3))
        self.assert_impossible(close(3, 9, 2))
        self.assert_impossible(close(3, 9, 0))
        self.assert_possible(close(3, 9, 3), close(5, 12, 5))
        self.assert_impossible(close(3, 9, 3), close(5, 12, 4))
        self.assert_impossible(close(3, 9, 5), close(5, 12, 4))
        self.assert_impossible(close(3, 9, 4), close(5, 12, 5))

    def test_hidden_versions_of_received_slots(self):
        reads = (read(1, 3, 2, 5), read(1, 3, 0, 5), read(3, 4, 1, None))
        self.assert_possible(*reads, close(3, 9, 6))
        self.assert_impossible(*reads, close(3, 9, 5))
        self.assert_possible(*reads, close(4, 9, 7))
        self.assert_impossible(*reads, close(4, 9, 6))
        self.assert_possible(*reads, close(2, 4, 4), close(3, 9, 6))
        self.assert_impossible(*reads, close(2, 4, 5), close(3, 9, 6))
        self.assert_impossible(*reads, close(2, 4, 3), close(3, 9, 6))

    def test_hidden_versions_of_one_segment_do_not_help_another(self):
        self.assert_impossible(close(2, 5, 1), close(4, 9, 9))
        self.assert_impossible(read(4, 6, 3, 1), close(2, 5, 6), close(4, 9, 10))
        self.assert_possible(read(4, 6, 3, 1), close(2, 5, 5), close(4, 9, 10))

    def test_one_faulty_meter(self):
        good = {
            "a": [("read", "a", 1, 0, 3, 4), ("close", "a", 1, 9, 1)],
            "b": [("read", "b", 1, 0, 3, 4), ("close", "b", 1, 9, 1)],
            "c": [("read", "c", 1, 0, 3, 4), ("close", "c", 1, 9, 1)],
        }
        together = good["a"] + good["b"] + good["c"]
        self.assertIs(is_possible(PLAN, together), True)
        for name in "abc":
            faults = (
                ("read", name, 1, 0, 4, 4), ("read", name, 2, 0, 8, 4), ("close", name, 1, 9, 2),
                ("clock", name, 61, 70), ("close", name, 0, 9, 0), ("read", name, 1, 1, 3, 10),
            )
            for fault in faults:
                for place in range(len(together) + 1):
                    self.assertIs(is_possible(PLAN, together[:place] + [fault] + together[place:]), False)

    def test_the_bag_stays_as_it_was(self):
        letters = [read(3, 4, 1, None), read(1, 3), close(4, 9, 6), *OTHERS]
        before = copy.deepcopy(letters)
        self.assertIs(is_possible(PLAN, letters), True)
        self.assertEqual(letters, before)


class SmallHistories(unittest.TestCase):
    """Bags are compared with all histories that could matter."""

    PLAN = (10, (("a", 0, 1, 1),))
    LETTERS = (
        [("read", "a", slot, version, stamp, value)
         for slot in (1, 2) for version in (0, 1) for stamp in (0, 1, 2) for value in (0, 1, 2, None)]
        # No more than two versions fall to a slot of the histories.
        + [("close", "a", 0, stamp, versions) for stamp in (0, 1, 2, 3) for versions in (0, 1)]
        + [("close", "a", 1, stamp, versions) for stamp in (0, 1, 2, 3) for versions in (0, 1, 2)]
        + [("close", "a", 2, stamp, versions) for stamp in (0, 1, 2, 3) for versions in (1, 2, 3)]
        + [("clock", "a", low, high) for low in (-2, -1, 0, 1, 2) for high in (-2, -1, 0, 1, 2)]
    )

    @classmethod
    def setUpClass(cls):
        cls.truth = Truth(all_histories(cls.PLAN, (-1, 0, 1, 2, 3), 2, 2))

    def assert_as_the_histories(self, letters):
        self.assertIs(is_possible(self.PLAN, letters), self.truth.of_bag(letters) != 0, letters)

    def test_bags_of_two_letters(self):
        for letters in itertools.combinations(self.LETTERS, 2):
            self.assert_as_the_histories(letters)

    def test_larger_bags(self):
        choices = random.Random(20)
        for number in range(6000):
            history = 1 << choices.randrange(len(self.truth.histories))
            true = [letter for letter in self.LETTERS if self.truth.of_letter(letter) & history]
            letters = choices.choices(true, k=choices.randint(1, 5)) if true else []
            letters += choices.choices(self.LETTERS, k=choices.randint(0, 2))
            numbers = {letter[2]: letter[4] for letter in letters if letter[0] == "close"}
            # A first slot of one version would need a second one of more than two.
            if numbers.get(2, 0) - numbers.get(1, numbers.get(2, 0)) <= 2:
                self.assert_as_the_histories(letters)

    def test_true_letters_are_possible_together(self):
        choices = random.Random(21)
        for history in choices.sample(self.truth.histories, 300):
            slots = history[0][2]
            letters = list(reads_of(history)) + [("clock", "a", history[0][1], history[0][1])]
            letters += [letter for letter in self.LETTERS
                        if letter[0] == "close" and self.truth.of_letter(letter)
                        & 1 << self.truth.histories.index(history)]
            letters.append(("close", "a", len(slots), 50, sum(len(versions) for _, versions in slots)))
            self.assertIs(is_possible(self.PLAN, letters), True)
            for letter in letters:
                self.assertIs(is_possible(self.PLAN, [letter]), True)


if __name__ == "__main__":
    unittest.main()
