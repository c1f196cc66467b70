"""Point [3]: bags at the bounds are answered, and so are those that go somewhat beyond."""

import random
import unittest

from toldwhensure.alarms import alarm_state, rings_in
from toldwhensure.balances import told_balance
from toldwhensure.condensing import condensed, joined
from toldwhensure.folding import folded, told_folded
from toldwhensure.gateways import Gateway
from toldwhensure.halls import Hall, recovered
from toldwhensure.histories import agrees, is_history
from toldwhensure.plainly import plain_balance, plain_value, readings
from toldwhensure.possible import is_possible
from toldwhensure.reaching import final_reach
from toldwhensure.segments import inside, runs_of, segments_of
from toldwhensure.telling import told
from toldwhensure.witnesses import some_history, witness
from tests.brute import closes_of
from tests.forms import plain_condensed, plain_folded
from tests.telling import Told

NAMES = tuple("abcdefghijklmnopqrst")
AGGREGATES = (("count",), ("sum",), ("among", 0, 20), ("rank", 1, 2), ("rank", 19, 20), ("rank", 0, 20))


class ManyLetters(Told):
    """Twenty meters with an error bound of 60, and 2000 letters."""

    PLAN = (100, tuple((name, -50, 100, 60) for name in NAMES))

    @classmethod
    def setUpClass(cls):
        choices = random.Random(5)
        logs, letters = [], []
        for name in NAMES:
            stamp, slots = 0, []
            for _ in range(110):
                stamp += choices.randint(0, 8)
                later = choices.choices([*range(-50, 101), None, None], k=choices.choice((0, 0, 1, 2)))
                slots.append((stamp, (choices.randint(-50, 100), *later)))
            log = (name, choices.randint(-60, 60), tuple(slots))
            logs.append(log)
            for slot, (stamp, versions) in enumerate(slots, start=1):
                if choices.random() < 0.8:
                    version = choices.randrange(len(versions))
                    letters.append(("read", name, slot, version, stamp, versions[version]))
            letters += choices.sample(closes_of(log, -5, stamp + 300), 12)
            letters.append(("close", name, 110, stamp + 300, sum(len(slot[1]) for slot in slots)))
        choices.shuffle(letters)
        cls.history, cls.letters = tuple(logs), letters[:2000]

    def test_it_is_possible(self):
        self.assertIs(is_history(self.PLAN, self.history) and agrees(self.history, self.letters), True)
        self.assertIs(is_possible(self.PLAN, self.letters), True)
        self.assert_shown(self.PLAN, self.letters, some_history(self.PLAN, self.letters))

    def test_told(self):
        for aggregate in AGGREGATES:
            for window in (1, 3):
                answer = told(self.PLAN, self.letters, aggregate, NAMES, window)
                value = plain_value(self.PLAN, self.history, aggregate, NAMES, window)
                self.assertTrue(answer[-2] is None or answer[-2] <= value)
                self.assertTrue(answer[-1] is None or value <= answer[-1])
                if window == 1:
                    self.assert_witnesses(self.PLAN, self.letters, aggregate, NAMES, window, answer)

    def test_a_balance_of_40_terms(self):
        balance = tuple(
            (number % 7 - 8, ("sum",) if number % 3 else ("count",), NAMES[number % 5:][:number % 16 + 1], number // 6)
            for number in range(40)
        )
        answer = told_balance(self.PLAN, self.letters, balance)
        value = plain_balance(self.PLAN, self.history, balance)
        self.assertTrue(answer[0] is None or answer[0] <= value)
        self.assertTrue(answer[1] is None or value <= answer[1])
        self.assert_balance_witnesses(self.PLAN, self.letters, balance, answer)

    def test_forms(self):
        form = condensed(self.PLAN, self.letters)
        self.assertEqual(form, plain_condensed(self.PLAN, self.letters))
        self.assertEqual(joined(self.PLAN, form, self.letters), form)
        self.assertEqual(folded(self.PLAN, self.letters), plain_folded(self.PLAN, self.letters))
        gateway = Gateway(self.PLAN)
        for start in range(0, 2000, 50):
            gateway.take(self.letters[start:start + 50])
        self.assertEqual(gateway.bundle(), folded(self.PLAN, self.letters))

    def test_told_from_forms(self):
        # Bounds that leave few offsets settle many slots.
        letters = self.letters + [("clock", name, offset, offset + 1) for name, offset, slots in self.history]
        letters += [("read", name, slot, len(versions) - 1, stamp, versions[-1])
                    for name, _, slots in self.history[:5] for slot, (stamp, versions) in enumerate(slots, start=1)]
        form = folded(self.PLAN, letters)
        self.assertEqual(form, plain_folded(self.PLAN, letters))
        self.assertGreater(len(form[0]), 2)
        for aggregate in AGGREGATES:
            for window in (0, 2, 4):
                self.assertEqual(told_folded(self.PLAN, form, aggregate, NAMES, window),
                                 told(self.PLAN, letters, aggregate, NAMES, window))

    def test_a_final_reach_over_400_windows(self):
        for length in (1, 20, 100):
            plan = (length, self.PLAN[1])
            for aggregate in AGGREGATES:
                self.assertEqual(final_reach(plan, self.letters, aggregate, NAMES, -200, 199), -201)
            # There are no such values, but the program has to look at each window.
            self.assertEqual(final_reach(plan, self.letters, ("among", 500, 600), NAMES, -9, 390), 390)
            letters = [("close", name, 0, 390 * length + 60, 0) for name in NAMES]
            for aggregate in AGGREGATES:
                self.assertEqual(final_reach(plan, letters, aggregate, NAMES, -9, 390), 389)

    def test_alarms_over_400_windows(self):
        for length in (2, 100):
            plan = (length, self.PLAN[1])
            alarms = [(name, aggregate, NAMES, relation, limit, -9, 390) for name, aggregate, relation, limit in (
                ("many", ("count",), "over", 40), ("sum", ("sum",), "over", 500), ("least", ("rank", 0, 20), "under", 60),
                ("middle", ("rank", 1, 2), "under", 60), ("odd", ("among", 0, 9), "over", 3),
            )]
            hall = Hall(plan, alarms)
            hall.take(self.letters)
            notes = hall.notes()
            for found in alarms:
                for window in (-2, 1, 4, 390):
                    state = alarm_state(plan, self.letters, found, window)
                    self.assertEqual((found[0], window) in notes, state == "rings")
                    if state != "open":
                        self.assertIs(rings_in(plan, self.history, found, window), state == "rings")
            if length == 100:
                self.assertIn("many", [name for name, window in notes])
            for note in notes:
                hall.acknowledge(*note)
            hall.checkpoint()
            again = recovered(plan, alarms, hall.writes()[-2])
            self.assertEqual((again.form(), again.seen()), (hall.form(), notes))
            self.assertEqual(again.notes(), ())


class GreatNumbers(Told):
    PLAN = (10, (("a", 0, 5, 1),))

    def test_many_hidden_versions(self):
        letters = [("read", "a", 1, 3999, 3, 4), ("close", "a", 1, 20, 4000), ("close", "a", 400, 40, 4400)]
        self.assertEqual(segments_of(self.PLAN, letters, "a"), ((1, 1, 0), (2, 400, 1), (401, None, None)))
        self.assert_told(self.PLAN, letters, ("sum",), ("a",), 0, (4, 4))
        letters = [("read", "a", 1, 0, 3, 4), ("close", "a", 1, 20, 4000), ("close", "a", 2, 30, 9000)]
        self.assert_told(self.PLAN, letters, ("sum",), ("a",), 0, (0, 5))
        self.assert_told(self.PLAN, letters, ("count",), ("a",), 2, (0, None))

    def test_numbers_far_beyond_the_bounds(self):
        letters = [("read", "a", 9 * 10 ** 12, 0, 9, 4), ("close", "a", 10 ** 13, 10, 10 ** 13 + 3)]
        self.assertIs(is_possible(self.PLAN, letters), True)
        self.assertEqual(segments_of(self.PLAN, letters, "a"), ((1, 10 ** 13, 3), (10 ** 13 + 1, None, None)))
        self.assertEqual(runs_of(self.PLAN, letters, "a"), (
            (1, 9 * 10 ** 12 - 1, None, 9), (9 * 10 ** 12 + 1, 10 ** 13, 9, 9)
        ))
        self.assertEqual(inside(self.PLAN, letters, "a", 0, 0)[0][0], ((4,), 0, 10 ** 12, 9 * 10 ** 12 - 1, 3))
        letters.append(("clock", "a", 0, 0))
        self.assertEqual(told(self.PLAN, letters, ("count",), ("a",), 0), (10 ** 12 - 2, 10 ** 13))
        self.assertEqual(told(self.PLAN, letters, ("rank", 1, 2), ("a",), 0), (False, 0, 5))
        letters.append(("close", "a", 10 ** 13, 11, 10 ** 13 + 2))
        self.assertIs(is_possible(self.PLAN, letters), False)

    def test_ranks_that_need_many_further_slots(self):
        letters = [("read", "a", slot, 0, 3, 0) for slot in range(1, 401)] + [("close", "a", 400, 5, 400)]
        answer = told(self.PLAN, letters, ("rank", 1, 20), ("a",), 0)
        self.assertEqual(answer, (False, 0, 5))
        history = witness(self.PLAN, letters, ("rank", 1, 20), ("a",), 0, "high")
        self.assert_shown(self.PLAN, letters, history)
        # At index 400 stands the first reading after those that are 0.
        self.assertEqual(len(readings(self.PLAN, history, ("a",), 0)), 8001)
        self.assertEqual(plain_value(self.PLAN, history, ("rank", 1, 20), ("a",), 0), 5)


if __name__ == "__main__":
    unittest.main()
