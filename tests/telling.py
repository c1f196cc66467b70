"""What the tests of all that is told have in common."""

import copy
import unittest

from toldwhensure.balances import balance_witness, told_balance
from toldwhensure.histories import agrees, is_history
from toldwhensure.plainly import plain_balance, plain_value, readings
from toldwhensure.telling import told
from toldwhensure.witnesses import witness


class Told(unittest.TestCase):
    """Tests of what is told; each answer is shown by its witnesses, too."""

    def assert_shown(self, plan, letters, history):
        self.assertIs(is_history(plan, history), True, (letters, history))
        self.assertIs(agrees(history, letters), True, (letters, history))

    def same_for_each_form(self, call, letters):
        """What the call returns for the bag: the same for lists and tuples, in any order, with duplicates."""
        before = copy.deepcopy(letters)
        found = call(list(letters))
        self.assertEqual(call(tuple(letters)), found)
        self.assertEqual(call(list(letters)[::-1]), found)
        self.assertEqual(call(tuple(letters) * 2), found)
        passed = list(letters)
        call(passed)
        self.assertEqual(passed, list(letters))
        self.assertEqual(letters, before)
        return found

    def assert_told(self, plan, letters, aggregate, meters, window, answer):
        def call(bag):
            return told(plan, bag, aggregate, meters, window)
        found = self.same_for_each_form(call, letters)
        self.assertEqual(found, answer)
        self.assertIs(found.__class__, tuple)
        if aggregate[0] == "rank":
            self.assertIs(found[0].__class__, bool)
        self.assert_witnesses(plan, letters, aggregate, meters, window, answer)

    def assert_witnesses(self, plan, letters, aggregate, meters, window, answer):
        for end, value in zip(("low", "high"), answer[-2:]):
            history = witness(plan, letters, aggregate, meters, window, end)
            if value is None:
                self.assertIsNone(history)
            else:
                self.assert_shown(plan, letters, history)
                self.assertEqual(plain_value(plan, history, aggregate, meters, window), value, history)
        history = witness(plan, letters, aggregate, meters, window, "empty")
        if aggregate[0] == "rank":
            empty = answer[0]
        else:
            empty = told(plan, letters, ("count",), meters, window)[0] == 0
        self.assertEqual(history is not None, empty)
        if empty:
            self.assert_shown(plan, letters, history)
            self.assertEqual(readings(plan, history, meters, window), ())

    def assert_balance(self, plan, letters, balance, answer):
        def call(bag):
            return told_balance(plan, bag, balance)
        found = self.same_for_each_form(call, letters)
        self.assertEqual(found, answer)
        self.assertIs(found.__class__, tuple)
        # The order of the terms plays no part.
        self.assertEqual(told_balance(plan, letters, balance[::-1]), answer)
        self.assert_balance_witnesses(plan, letters, balance, answer)

    def assert_balance_witnesses(self, plan, letters, balance, answer):
        for end, value in zip(("low", "high"), answer):
            history = balance_witness(plan, letters, balance, end)
            if value is None:
                self.assertIsNone(history)
            else:
                self.assert_shown(plan, letters, history)
                self.assertEqual(plain_balance(plan, history, balance), value, history)
