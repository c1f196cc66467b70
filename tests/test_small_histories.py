"""Points [12], [17] to [19] and [40] to [42]: all that is told is compared with histories, one by one."""

import itertools
import random
import unittest

from toldwhensure.balances import told_balance
from toldwhensure.histories import agrees, is_history
from toldwhensure.plainly import plain_balance, plain_value, readings, value_of
from toldwhensure.segments import inside, offsets_left
from toldwhensure.telling import is_final, told
from toldwhensure.witnesses import some_history
from tests.brute import Truth, all_logs, random_letters, random_log
from tests.telling import Told

STAMPS = (-1, 0, 1, 2, 3)
PLANS = (
    (2, (("a", -1, 1, 1), ("b", 0, 2, 0))),
    (3, (("a", 1, 2, 1), ("b", -2, -1, 1))),
    (1, (("a", 0, 2, 0), ("b", 0, 0, 1))),
    (2, (("a", -1, 0, 1), ("b", 0, 1, 1))),
)


def random_aggregates(choices):
    least = choices.randint(-2, 2)
    found = [("count",), ("sum",), ("among", least, least + choices.randint(0, 2)), ("rank", 0, 1), ("rank", 1, 1)]
    for _ in range(2):
        whole = choices.randint(1, 5)
        found.append(("rank", choices.randint(0, whole), whole))
    return found


def random_balance(choices):
    return tuple(
        (choices.choice((-2, -1, 1, 2, 3)), choices.choice((("count",), ("sum",))),
         choices.choice((("a",), ("b",), ("a", "b"))), choices.randint(-1, 2))
        for _ in range(choices.randint(0, 4))
    )


class OneByOne(Told):
    """No small history that agrees is beyond an end, and each end has a history that shows it."""

    @classmethod
    def setUpClass(cls):
        cls.truths = {}
        for plan in PLANS:
            for meter in plan[1]:
                cls.truths[plan, meter] = Truth([(log,) for log in all_logs(meter, STAMPS, 2, 2)])

    def random_bag(self, choices, plan):
        """A bag, and for each meter the small logs that agree with it."""
        letters, agreeing = [], []
        for meter in plan[1]:
            truth = self.truths[plan, meter]
            about = random_letters(choices, choices.choice(truth.histories)[0], -2, 4)
            letters += about
            agreeing.append([truth.histories[number][0] for number in truth.agreeing(about)])
        choices.shuffle(letters)
        return letters, agreeing

    def test_told(self):
        choices = random.Random(1)
        for _ in range(250):
            plan = choices.choice(PLANS)
            letters, agreeing = self.random_bag(choices, plan)
            self.assert_shown(plan, letters, some_history(plan, letters))
            meters = choices.choice((("a",), ("b",), ("a", "b")))
            window = choices.randint(-2, 2)
            single = [
                {readings(plan, (log,), meters, window) for log in logs}
                for meter, logs in zip(plan[1], agreeing) if meter[0] in meters
            ]
            together = {tuple(sorted(sum(parts, ()))) for parts in itertools.product(*single)}
            for aggregate in random_aggregates(choices):
                self.assert_told_of(plan, letters, aggregate, meters, window, together)

    def assert_told_of(self, plan, letters, aggregate, meters, window, together):
        answer = told(plan, letters, aggregate, meters, window)
        values = [value_of(aggregate, found) for found in together]
        if None in values:
            self.assertIs(answer[0], True)
        low, high = answer[-2:]
        for value in values:
            if value is not None and aggregate[0] == "rank":
                self.assertTrue(low <= value <= high)
            elif value is not None:
                self.assertTrue((low is None or low <= value) and (high is None or value <= high))
        self.assert_witnesses(plan, letters, aggregate, meters, window, answer)
        if aggregate[0] != "rank":
            self.assert_no_ends_only_where_tails_go_on(plan, letters, ((1, aggregate, meters, window),), answer)

    def test_told_of_balances(self):
        choices = random.Random(2)
        for _ in range(250):
            plan = choices.choice(PLANS)
            letters, agreeing = self.random_bag(choices, plan)
            balance = random_balance(choices)
            answer = told_balance(plan, letters, balance)
            low, high = 0, 0
            for meter, logs in zip(plan[1], agreeing):
                mine = tuple((factor, aggregate, (meter[0],), window)
                             for factor, aggregate, meters, window in balance if meter[0] in meters)
                values = {plain_balance(plan, (log,), mine) for log in logs}
                low, high = low + min(values), high + max(values)
            self.assertTrue(answer[0] is None or answer[0] <= low)
            self.assertTrue(answer[1] is None or high <= answer[1])
            self.assert_balance_witnesses(plan, letters, balance, answer)
            self.assert_no_ends_only_where_tails_go_on(plan, letters, balance, answer)

    def assert_no_ends_only_where_tails_go_on(self, plan, letters, balance, answer):
        for end, sign in zip(answer, (-1, 1)):
            endless = any([
                inside(plan, letters, meter[0], offset, window)[1]
                and max([sign * self.worth(balance, meter[0], window, value)
                         for value in range(meter[1], meter[2] + 1)]) > 0
                for meter in plan[1]
                for offset in range(offsets_left(plan, letters, meter[0])[0], offsets_left(plan, letters, meter[0])[1] + 1)
                for window in {term[3] for term in balance}
            ])
            self.assertEqual(end is None, endless)

    def worth(self, balance, name, window, value):
        return sum([
            factor * value_of(aggregate, (value,))
            for factor, aggregate, meters, counted in balance if name in meters and counted == window
        ])


class Growing(Told):
    """What is told encloses the plain value, and only shrinks when more letters come."""

    PLAN = (4, (("a", -2, 3, 2), ("b", 0, 4, 1)))

    def test_more_letters(self):
        choices = random.Random(3)
        for _ in range(60):
            history = tuple(random_log(choices, meter, range(12), 6, 3) for meter in self.PLAN[1])
            self.assertTrue(is_history(self.PLAN, history))
            letters = [letter for log in history for letter in random_letters(choices, log, -1, 14)]
            choices.shuffle(letters)
            self.assertTrue(agrees(history, letters))
            window = choices.randint(0, 2)
            meters = choices.choice((("a",), ("a", "b")))
            for aggregate in random_aggregates(choices):
                value = plain_value(self.PLAN, history, aggregate, meters, window)
                before = told(self.PLAN, [], aggregate, meters, window)
                for many in range(0, len(letters) + 1, 3):
                    answer = told(self.PLAN, letters[:many], aggregate, meters, window)
                    self.assert_within(aggregate, answer, before, value)
                    before = answer

    def assert_within(self, aggregate, answer, before, value):
        low, high = answer[-2:]
        if aggregate[0] == "rank":
            self.assertTrue(before[0] or not answer[0])
            self.assertTrue(low <= value <= high if value is not None else answer[0])
        else:
            self.assertTrue((low is None or low <= value) and (high is None or value <= high))
        if low is not None and before[-2] is not None:
            self.assertTrue(before[-2] <= low)
        if high is not None and before[-1] is not None:
            self.assertTrue(high <= before[-1])
        if aggregate[0] != "rank":
            self.assertTrue(before[0] is None or low is not None)
            self.assertTrue(before[1] is None or high is not None)
        if is_final(aggregate, before):
            self.assertEqual(answer, before)


def counts_of_part(part, limit, low, high):
    """All pairs of the readings up to the limit and above it that a segment may have, as point [26] says."""
    values, voids, sure, maybe, hidden = part
    small = len([value for value in values if value <= limit])
    large = len(values) - small
    hidden = len(values) + voids + sure if hidden is None else hidden
    found = set()
    for changed in itertools.product(range(small + 1), range(large + 1), range(voids + 1), range(sure + 1)):
        if sum(changed) <= hidden:
            kept = (small - changed[0], large - changed[1])
            least = sure - changed[3]
            for free in range(least, least + maybe + sum(changed) + 1):
                for below in range(free + 1):
                    if (below == 0 or low <= limit) and (below == free or high > limit):
                        found.add((kept[0] + below, kept[1] + free - below))
    return found


def sums(some, others):
    return {(one[0] + other[0], one[1] + other[1]) for one in some for other in others}


class RanksByParts(Told):
    """What is told of ranks is what follows, by point [26], from what is inside."""

    def counts(self, plan, letters, meters, window, limit):
        """All pairs of the numbers of readings up to the limit and above it that are possible."""
        together = {(0, 0)}
        for name, low, high, _ in [meter for meter in plan[1] if meter[0] in meters]:
            found = set()
            first, last = offsets_left(plan, letters, name)
            for offset in range(first, last + 1):
                parts, more = inside(plan, letters, name, offset, window)
                pairs = {(0, 0)}
                for part in parts:
                    pairs = sums(pairs, counts_of_part(part, limit, low, high))
                if more:
                    further = {(many, 0) for many in range(60) if low <= limit}
                    pairs = sums(pairs, further | {(0, many) for many in range(60) if high > limit})
                found |= pairs
            together = sums(together, found)
        return together

    def by_parts(self, plan, letters, aggregate, meters, window):
        _, part, whole = aggregate
        values = set()
        empty = False
        for limit in range(-3, 6):
            for small, large in self.counts(plan, letters, meters, window, limit):
                if small + large == 0:
                    empty = True
                # The value is up to the limit, or it is above it.
                elif (small + large - 1) * part // whole < small:
                    values.add((limit, True))
                else:
                    values.add((limit + 1, False))
        low = min([limit for limit, below in values if below], default=None)
        high = max([limit for limit, below in values if not below], default=None)
        return empty, low, high

    def test_ranks(self):
        choices = random.Random(4)
        for _ in range(80):
            first, second = choices.choice((-2, 0, 1)), choices.choice((-1, 0, 2))
            meters = (("a", first, first + choices.choice((0, 1, 2)), choices.choice((0, 0, 1))),
                      ("b", second, second + choices.choice((0, 2)), choices.choice((0, 1))))
            plan = (choices.choice((3, 5)), meters[:choices.randint(1, 2)])
            history = tuple(random_log(choices, meter, range(9), 4, 2) for meter in plan[1])
            letters = [letter for log in history for letter in random_letters(choices, log, -1, 11)]
            for _ in range(3):
                whole = choices.choice((1, 2, 3, 5))
                aggregate = ("rank", choices.randint(0, whole), whole)
                names = tuple(meter[0] for meter in plan[1])
                window = choices.randint(0, 2)
                answer = told(plan, letters, aggregate, names, window)
                self.assertEqual(answer, self.by_parts(plan, letters, aggregate, names, window))
                self.assert_witnesses(plan, letters, aggregate, names, window, answer)


if __name__ == "__main__":
    unittest.main()
