"""Points [11] and [33]: gateways."""

import random

from tests.forms import Forms, plain_folded, random_history, random_plan, true_letters
from tests.support import HUGE, assert_raises_only
from toldwhensure.folding import folded
from toldwhensure.gateways import Gateway

PLAN = (10, (("a", 0, 5, 2), ("b", -3, 9, 0)))


def read(slot, stamp, version=0, value=1, name="a"):
    return ("read", name, slot, version, stamp, value)


def close(slots, stamp, versions, name="a"):
    return ("close", name, slots, stamp, versions)


def clock(low, high, name="a"):
    return ("clock", name, low, high)


LETTERS = [read(1, 3), read(2, 4, 1, None), close(2, 7, 3), read(3, 9), clock(-1, 1), close(4, 20, 6), read(1, 5, 0, 9, "b")]
INVALID = (
    ("read", "c", 1, 0, 3, 1), ("close", "c", 0, 3, 0), ("clock", "c", 0, 0), ("read", "", 1, 0, 3, 1),
    ("read", "A", 1, 0, 3, 1), ("clock", "ab", 0, 0),
    read(0, 3), read(-1, 3), read(-HUGE, 3), read(1, 3, -1), read(1, 3, -HUGE, None),
    close(-1, 3, 0), close(-HUGE, 3, 0), close(0, 3, -1), close(2, 3, -HUGE),
)


class Gateways(Forms):
    def assert_bundle(self, gateway, letters, plan=PLAN):
        found = gateway.bundle()
        self.assertEqual(found, folded(plan, letters))
        self.assertEqual(found, plain_folded(plan, letters))
        self.assert_tuples(found)
        # Asking changes nothing.
        self.assertEqual(gateway.bundle(), found)

    def test_a_new_one(self):
        self.assertEqual(Gateway(PLAN).bundle(), ((), ()))
        self.assert_bundle(Gateway(PLAN), [])

    def test_lists_and_tuples(self):
        for kind in (list, tuple):
            gateway = Gateway(PLAN)
            self.assertIsNone(gateway.take(kind(LETTERS[:4])))
            self.assert_bundle(gateway, LETTERS[:4])
            self.assertIsNone(gateway.take(kind(LETTERS[4:])))
            self.assert_bundle(gateway, LETTERS)

    def test_no_letters(self):
        gateway = Gateway(PLAN)
        gateway.take([])
        self.assert_bundle(gateway, [])
        gateway.take(LETTERS)
        gateway.take(())
        self.assert_bundle(gateway, LETTERS)

    def test_letters_one_by_one(self):
        gateway = Gateway(PLAN)
        for many, letter in enumerate(LETTERS, start=1):
            gateway.take([letter])
            self.assert_bundle(gateway, LETTERS[:many])

    def test_the_same_letters_twice(self):
        gateway = Gateway(PLAN)
        gateway.take(LETTERS)
        gateway.take(LETTERS[::-1])
        gateway.take(LETTERS[2:5] * 2)
        self.assert_bundle(gateway, LETTERS)

    def test_bundles_of_others(self):
        one, other = Gateway(PLAN), Gateway(PLAN)
        one.take(LETTERS[:3])
        older = one.bundle()
        other.take(LETTERS[2:5])
        self.assertIsNone(one.take_bundle(other.bundle()))
        self.assert_bundle(one, LETTERS[:5])
        self.assert_bundle(other, LETTERS[2:5])
        other.take(LETTERS[5:])
        other.take_bundle(one.bundle())
        self.assert_bundle(other, LETTERS)
        # An older one, and its own.
        other.take_bundle(older)
        self.assert_bundle(other, LETTERS)
        other.take_bundle(other.bundle())
        self.assert_bundle(other, LETTERS)
        other.take_bundle(Gateway(PLAN).bundle())
        self.assert_bundle(other, LETTERS)

    def test_a_bundle_that_was_handed_on_stays(self):
        gateway = Gateway(PLAN)
        gateway.take(LETTERS[:3])
        older = gateway.bundle()
        gateway.take(LETTERS)
        self.assertEqual(older, folded(PLAN, LETTERS[:3]))

    def test_lists_that_are_changed_afterwards(self):
        gateway = Gateway(PLAN)
        letters = list(LETTERS)
        gateway.take(letters)
        self.assertEqual(letters, LETTERS)
        letters.clear()
        self.assert_bundle(gateway, LETTERS)
        letters.append(read(9, 40))
        self.assert_bundle(gateway, LETTERS)

    def test_two_gateways_do_not_touch_each_other(self):
        one, other = Gateway(PLAN), Gateway(PLAN)
        one.take(LETTERS)
        self.assert_bundle(other, [])
        other.take([read(2, 8)])
        self.assert_bundle(one, LETTERS)
        self.assert_bundle(other, [read(2, 8)])
        third = Gateway((5, (("a", 0, 5, 2), ("z", 0, 5, 0))))
        third.take([read(1, 3), close(1, 4, 1), read(1, 3, name="z"), close(1, 9, 1, "z")])
        self.assertEqual(third.bundle(), ((("z", 1, 9, 1, ((0, 1, 1),)),), (close(1, 4, 1), read(1, 3))))

    def test_not_valid(self):
        for bad in INVALID:
            for at in (0, 3, len(LETTERS)):
                letters = LETTERS[:at] + [bad] + LETTERS[at:]
                for bag in (letters, tuple(letters)):
                    gateway = Gateway(PLAN)
                    assert_raises_only(self, "InvalidLetter", gateway.take, bag)
                    self.assertEqual(gateway.bundle(), ((), ()))
                    gateway.take(LETTERS[:2])
                    assert_raises_only(self, "InvalidLetter", gateway.take, bag)
                    self.assert_bundle(gateway, LETTERS[:2])
                    gateway.take(LETTERS)
                    self.assert_bundle(gateway, LETTERS)
            assert_raises_only(self, "InvalidLetter", Gateway(PLAN).take, [bad])

    def test_very_large_numbers(self):
        plan = (HUGE, (("a", -HUGE, HUGE, 1),))
        gateway = Gateway(plan)
        gateway.take([read(1, HUGE * HUGE + 1, 0, HUGE), read(HUGE, HUGE ** 3, HUGE, None)])
        gateway.take([close(1, HUGE * HUGE + 2, 1)])
        self.assertEqual(gateway.bundle(), (
            (("a", 1, HUGE * HUGE + 2, 1, ((HUGE, HUGE, 1),)),), (read(HUGE, HUGE ** 3, HUGE, None),)
        ))

    def test_any_order_and_any_tree(self):
        choices = random.Random(15)
        for _ in range(120):
            plan = random_plan(choices)
            letters = true_letters(choices, random_history(choices, plan))
            gateways = [Gateway(plan) for _ in range(4)]
            taken = [[] for _ in gateways]
            bundles = []
            for letter in letters:
                at = choices.randrange(4)
                gateways[at].take([letter] * choices.randint(1, 2))
                taken[at].append(letter)
                if choices.random() < 0.4:
                    bundles.append((gateways[at].bundle(), list(taken[at])))
                if bundles and choices.random() < 0.4:
                    at = choices.randrange(4)
                    bundle, behind = choices.choice(bundles)
                    gateways[at].take_bundle(bundle)
                    taken[at] += behind
            for gateway, behind in zip(gateways, taken):
                self.assert_bundle(gateway, behind, plan)
            last = choices.randrange(4)
            for gateway in choices.sample(gateways, 4):
                gateways[last].take_bundle(gateway.bundle())
            self.assert_bundle(gateways[last], letters, plan)
