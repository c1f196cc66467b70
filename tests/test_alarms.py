"""Points [4], [14] to [17], [34] and [35]: alarms, when they ring, and their states."""

import itertools
import random
import unittest

from tests.brute import Truth, all_logs, random_letters
from tests.forms import AGGREGATES, random_history, random_plan, true_letters
from tests.support import HUGE, assert_raises_only
from tests.telling import Told
from toldwhensure.alarms import alarm_state, check_alarm, rings_in
from toldwhensure.histories import agrees
from toldwhensure.plainly import plain_value, readings, value_of
from toldwhensure.telling import told
from toldwhensure.witnesses import witness

PLAN = (10, (("a", 0, 5, 0), ("aa", -3, 9, 2), ("b", -3, 9, 0)))
COUNT, SUM, LOW, MIDDLE = ("count",), ("sum",), ("among", 0, 2), ("rank", 1, 2)


def alarm(aggregate=COUNT, meters=("a",), relation="over", limit=3, first=0, last=9, name="x"):
    return name, aggregate, meters, relation, limit, first, last


def read(slot, stamp, version=0, value=4, name="a"):
    return ("read", name, slot, version, stamp, value)


def close(slots, stamp, versions, name="a"):
    return ("close", name, slots, stamp, versions)


class CheckAlarm(unittest.TestCase):
    def assert_right(self, **parts):
        self.assertIsNone(check_alarm(PLAN, alarm(**parts)))

    def assert_wrong(self, **parts):
        assert_raises_only(self, "InvalidAlarm", check_alarm, PLAN, alarm(**parts))

    def test_names(self):
        for name in ("x", "a", "z", "over", "toomuch", "abcdefghijklmnopqrstuvwxyz" * 3):
            self.assert_right(name=name)
        for name in ("", "X", "tooMuch", "too much", "x1", "1", "x_y", " x", "x ", "x\n", "\n", "x-y", "x.", "`", "{", "@"):
            self.assert_wrong(name=name)

    def test_counts_and_sums(self):
        self.assert_right(aggregate=COUNT)
        self.assert_right(aggregate=SUM)

    def test_among(self):
        for low, high in ((0, 0), (0, 1), (-3, -2), (-HUGE, HUGE), (7, 7)):
            self.assert_right(aggregate=("among", low, high))
        for low, high in ((1, 0), (0, -1), (-2, -3), (HUGE, -HUGE), (HUGE + 1, HUGE)):
            self.assert_wrong(aggregate=("among", low, high))

    def test_ranks(self):
        for part, whole in ((0, 1), (1, 1), (1, 2), (0, 20), (20, 20), (0, HUGE), (HUGE, HUGE)):
            self.assert_right(aggregate=("rank", part, whole))
        for part, whole in ((0, 0), (0, -1), (-1, -1), (-2, -1), (-1, 1), (-HUGE, 1), (2, 1), (21, 20), (HUGE + 1, HUGE)):
            self.assert_wrong(aggregate=("rank", part, whole))

    def test_meters(self):
        for meters in (("a",), ("aa",), ("b",), ("a", "aa"), ("a", "b"), ("aa", "b"), ("a", "aa", "b")):
            self.assert_right(meters=meters)
        for meters in (
            (), ("a", "a"), ("a", "b", "b"), ("a", "a", "b"), ("b", "a"), ("aa", "a"), ("a", "b", "aa"),
            ("c",), ("a", "c"), ("",), ("ab",), ("A",), ("x",), ("0", "a"), ("a", "aaa"),
        ):
            self.assert_wrong(meters=meters)

    def test_relations(self):
        self.assert_right(relation="over")
        self.assert_right(relation="under")
        for relation in ("", "Over", "OVER", "above", ">", "over ", "un", "overunder", "equal"):
            self.assert_wrong(relation=relation)

    def test_limits(self):
        for limit in (0, -1, HUGE, -HUGE):
            self.assert_right(limit=limit)

    def test_windows(self):
        for first, last in ((0, 0), (0, 1), (-1, -1), (-5, 7), (-HUGE, -HUGE), (HUGE, HUGE + 399)):
            self.assert_right(first=first, last=last)
        for first, last in ((0, -1), (1, 0), (-1, -2), (HUGE, -HUGE), (HUGE + 1, HUGE)):
            self.assert_wrong(first=first, last=last)


class RingsIn(unittest.TestCase):
    # Window 0 has the values 2, 4 and 5, window 1 none, window 2 the value 7 of b alone.
    HISTORY = (("a", 0, ((3, (1, 4)), (8, (2,)), (9, (5,)), (12, (1, None)))), ("aa", 1, ()), ("b", 0, ((25, (7,)),)))

    def assert_rings(self, aggregate, value, window=0, meters=("a",)):
        for limit, over, under in ((value, False, False), (value - 1, True, False), (value + 1, False, True),
                                   (-HUGE, True, False), (HUGE, False, True)):
            for relation, rings in (("over", over), ("under", under)):
                found = alarm(aggregate, meters, relation, limit, -2, 3)
                self.assertIs(rings_in(PLAN, self.HISTORY, found, window), rings)

    def test_each_aggregate(self):
        self.assert_rings(COUNT, 3)
        self.assert_rings(SUM, 11)
        self.assert_rings(LOW, 1)
        self.assert_rings(("rank", 0, 1), 2)
        self.assert_rings(MIDDLE, 4)
        self.assert_rings(("rank", 1, 1), 5)

    def test_windows_and_meters(self):
        self.assert_rings(SUM, 0, 1)
        self.assert_rings(COUNT, 0, -2)
        self.assert_rings(SUM, 7, 2, ("a", "b"))
        self.assert_rings(SUM, 7, 2, ("b",))
        self.assert_rings(SUM, 0, 2, ("a", "aa"))
        self.assert_rings(COUNT, 3, 0, ("a", "aa", "b"))
        self.assert_rings(MIDDLE, 7, 2, ("aa", "b"))

    def test_no_reading_for_a_rank(self):
        for aggregate in (("rank", 0, 1), MIDDLE, ("rank", 1, 1)):
            for relation in ("over", "under"):
                for limit in (-HUGE, -1, 0, 1, HUGE):
                    found = alarm(aggregate, ("a",), relation, limit)
                    self.assertIs(rings_in(PLAN, self.HISTORY, found, 1), False)


class AlarmState(Told):
    def state(self, letters, found, window=0, plan=PLAN):
        self.assertIsNone(check_alarm(plan, found))
        return self.same_for_each_form(lambda bag: alarm_state(plan, bag, found, window), letters)

    def assert_states(self, letters, aggregate, low, high, meters=("a",), window=0, empty=False, plan=PLAN):
        """The states around the ends of what is told; with empty as for a rank that may have no readings."""
        quiet_or_open = "open" if empty else "rings"
        for value in {low, high, low - 1, low + 1, high - 1, high + 1, -HUGE, HUGE}:
            over, under = "open", "open"
            if value < low:
                over, under = quiet_or_open, "quiet"
            if value > high:
                over, under = "quiet", quiet_or_open
            if value == low:
                under = "quiet"
            if value == high:
                over = "quiet"
            for relation, state in (("over", over), ("under", under)):
                found = alarm(aggregate, meters, relation, value, -9, 9)
                self.assertEqual(self.state(letters, found, window, plan), state, (value, relation))

    def test_intervals(self):
        # Slots 2 and 3 are missing, and one hidden version may change any slot or take it back.
        letters = [read(1, 3), read(4, 8, 1, None), close(4, 10, 6)]
        self.assertEqual(told(PLAN, letters, SUM, ("a",), 0), (0, 19))
        self.assert_states(letters, COUNT, 2, 4)
        self.assert_states(letters, SUM, 0, 19)
        self.assert_states(letters, LOW, 0, 3)
        self.assert_states(letters, ("rank", 0, 1), 0, 5)
        self.assert_states(letters, ("rank", 1, 1), 0, 5)

    def test_final_values(self):
        letters = [read(1, 3), read(2, 8, 0, 2), close(2, 10, 2)]
        self.assert_states(letters, COUNT, 2, 2)
        self.assert_states(letters, SUM, 6, 6)
        self.assert_states(letters, LOW, 1, 1)
        self.assert_states(letters, MIDDLE, 2, 2)
        self.assert_states(letters, ("rank", 1, 1), 4, 4)
        self.assert_states(letters, COUNT, 0, 0, window=-1)

    def test_several_meters(self):
        letters = [read(1, 3), close(1, 10, 1), read(1, 5, 0, -3, "b"), close(1, 10, 2, "b")]
        self.assert_states(letters, SUM, 1, 13, ("a", "b"))
        self.assert_states(letters, COUNT, 1, 2, ("a", "b"))
        self.assert_states(letters, MIDDLE, -3, 4, ("a", "b"))
        self.assert_states(letters, ("rank", 1, 1), 4, 9, ("a", "b"))
        self.assert_states(letters, SUM, 4, 4, ("a",))
        self.assert_states(letters, SUM, -3, 9, ("b",))

    def test_several_offsets(self):
        letters = [read(1, 8, 0, 9, "aa"), read(2, 15, 0, 7, "aa"), close(2, 22, 2, "aa")]
        self.assert_states(letters, SUM, 0, 9, ("aa",))
        self.assert_states(letters, SUM, 7, 16, ("aa",), 1)
        letters.append(("clock", "aa", -2, 1))
        self.assert_states(letters, SUM, 9, 9, ("aa",))

    def test_an_end_that_is_none(self):
        for limit in (-HUGE, -1, 0, 3, HUGE):
            for aggregate in (SUM, COUNT, LOW):
                self.assertEqual(self.state([read(1, 3)], alarm(aggregate, ("b",), "over", limit)),
                                 "rings" if limit < 0 and aggregate != SUM else "open")
            self.assertEqual(self.state([], alarm(SUM, ("b",), "under", limit)), "open")
            self.assertEqual(self.state([], alarm(SUM, ("a",), "under", limit)), "quiet" if limit <= 0 else "open")
            self.assertEqual(self.state([], alarm(COUNT, ("a",), "under", limit)), "quiet" if limit <= 0 else "open")
        # No value of a is there.
        self.assertEqual(self.state([], alarm(("among", 6, 9), limit=0)), "quiet")
        self.assertEqual(self.state([], alarm(("among", 6, 9), limit=1, relation="under")), "rings")

    def test_ranks_that_may_have_no_readings(self):
        letters = [read(1, 3), close(1, 10, 2)]
        self.assertEqual(told(PLAN, letters, MIDDLE, ("a",), 0), (True, 0, 5))
        self.assert_states(letters, MIDDLE, 0, 5, empty=True)
        # If there are readings they are all the same.
        plan = (10, (("a", 4, 4, 0),))
        self.assertEqual(told(plan, letters, MIDDLE, ("a",), 0), (True, 4, 4))
        self.assert_states(letters, MIDDLE, 4, 4, empty=True, plan=plan)
        self.assert_states([read(1, 3), close(1, 10, 1)], MIDDLE, 4, 4, plan=plan)

    def test_ranks_without_any_readings(self):
        for limit in (-HUGE, -1, 0, 1, HUGE):
            for relation in ("over", "under"):
                found = alarm(MIDDLE, ("a",), relation, limit)
                self.assertEqual(self.state([close(0, 10, 0)], found), "quiet")
                self.assertEqual(self.state([read(1, 3, 1, None), close(1, 10, 2)], found), "quiet")

    def test_ranks_with_further_readings(self):
        letters = [read(1, 3), read(2, 4, 0, 2)]
        self.assert_states(letters, ("rank", 0, 1), 0, 5, empty=True)
        self.assert_states(letters + [close(2, 5, 2)], ("rank", 0, 1), 0, 2)
        self.assert_states(letters + [close(2, 5, 2)], ("rank", 1, 1), 4, 5)
        self.assert_states(letters + [close(2, 5, 2)], MIDDLE, 0, 5)

    def test_very_large_numbers(self):
        plan = (HUGE, (("a", -HUGE, HUGE, 1),))
        letters = [read(1, HUGE * HUGE + 1, 0, HUGE), read(2, HUGE * HUGE + 9), close(2, HUGE * (HUGE + 3) + 1, 3)]
        window = HUGE
        for limit, over, under in ((HUGE * 2, "quiet", "open"), (HUGE + 4, "open", "open"), (5 - HUGE, "open", "open"),
                                   (4 - HUGE, "open", "quiet"), (3 - HUGE, "rings", "quiet"),
                                   (HUGE * 2 + 1, "quiet", "rings"), (-HUGE ** 2, "rings", "quiet")):
            for relation, state in (("over", over), ("under", under)):
                found = alarm(SUM, ("a",), relation, limit, HUGE, HUGE)
                self.assertEqual(alarm_state(plan, letters, found, window), state)

    def test_not_possible(self):
        for letters in ([read(1, 3, 0, 6)], [close(2, 5, 1)], [("clock", "b", 3, 4)]):
            for aggregate in (COUNT, SUM, LOW, MIDDLE):
                for meters in (("a",), ("b",), ("a", "b")):
                    for bag in (letters, tuple(letters)):
                        assert_raises_only(self, "NotPossible", alarm_state, PLAN, bag, alarm(aggregate, meters), 0)

    def test_by_what_is_told(self):
        choices = random.Random(18)
        states = {"rings": 0, "quiet": 0, "open": 0}
        for _ in range(120):
            plan = random_plan(choices)
            letters = true_letters(choices, random_history(choices, plan))
            names = tuple(meter[0] for meter in plan[1])
            meters = choices.choice((names, names[:1], names[-1:]))
            for aggregate in AGGREGATES + (("rank", 2, 3), ("among", -1, 0)):
                window = choices.randint(-2, 4)
                answer = told(plan, letters, aggregate, meters, window)
                for limit in range(-4, 6):
                    for relation in ("over", "under"):
                        found = alarm(aggregate, meters, relation, limit, -2, 4)
                        state = alarm_state(plan, letters, found, window)
                        self.assertEqual(state, self.state_by_answer(aggregate, answer, relation, limit))
                        states[state] += 1
                        self.assert_shown_by_witnesses(plan, letters, found, window, answer, state)
        self.assertGreater(min(states.values()), 1000)

    def state_by_answer(self, aggregate, answer, relation, limit):
        low, high = answer[-2:]
        empty = False
        if aggregate[0] == "rank":
            empty = answer[0]
            if low is None:
                return "quiet"
        if relation == "under":
            low, high, limit = None if high is None else -high, None if low is None else -low, -limit
        if high is not None and high <= limit:
            return "quiet"
        return "rings" if low is not None and low > limit and not empty else "open"

    def assert_shown_by_witnesses(self, plan, letters, found, window, answer, state):
        ends = [end for end, value in zip(("low", "high"), answer[-2:]) if value is not None]
        if found[1][0] == "rank" and answer[0]:
            ends.append("empty")
        for end in ends:
            history = witness(plan, letters, found[1], found[2], window, end)
            if state != "open":
                self.assertIs(rings_in(plan, history, found, window), state == "rings")


class OneByOne(unittest.TestCase):
    """States are compared with all small histories; where these don't show both, there must be larger ones."""

    PLAN = (2, (("a", -1, 1, 1), ("b", 0, 2, 0)))

    def test_states(self):
        choices = random.Random(19)
        truths = [Truth([(log,) for log in all_logs(meter, (-1, 0, 1, 2, 3), 2, 2)]) for meter in self.PLAN[1]]
        for _ in range(80):
            letters, agreeing = [], []
            for truth in truths:
                about = random_letters(choices, choices.choice(truth.histories)[0], -2, 4)
                letters += about
                agreeing.append([truth.histories[number][0] for number in truth.agreeing(about)])
            window = choices.randint(-1, 2)
            meters = choices.choice((("a",), ("b",), ("a", "b")))
            single = [
                {readings(self.PLAN, (log,), meters, window) for log in logs}
                for meter, logs in zip(self.PLAN[1], agreeing) if meter[0] in meters
            ]
            together = {tuple(sorted(sum(parts, ()))) for parts in itertools.product(*single)}
            for aggregate in AGGREGATES:
                values = {value_of(aggregate, found) for found in together}
                for limit in range(-3, 4):
                    for relation in ("over", "under"):
                        self.assert_state(letters, alarm(aggregate, meters, relation, limit, -2, 3), window, values)

    def assert_state(self, letters, found, window, values):
        state = alarm_state(self.PLAN, letters, found, window)
        _, _, _, relation, limit, _, _ = found
        rings = {value is not None and (value > limit if relation == "over" else value < limit) for value in values}
        if state != "open":
            self.assertEqual(rings, {state == "rings"})
        elif rings != {True, False}:
            # A larger history shows the other thing: a witness, or one with many further slots.
            histories = [witness(self.PLAN, letters, found[1], found[2], window, end) for end in ("low", "high", "empty")]
            shown = rings | {rings_in(self.PLAN, history, found, window) for history in histories if history is not None}
            endless = found[1][0] != "rank" and None in histories[:2]
            self.assertTrue(shown == {True, False} or endless)


class Growing(unittest.TestCase):
    def test_rings_and_quiet_never_change(self):
        choices = random.Random(20)
        seen = set()
        for _ in range(100):
            plan = random_plan(choices)
            history = random_history(choices, plan)
            letters = true_letters(choices, history)
            self.assertTrue(agrees(history, letters))
            names = tuple(meter[0] for meter in plan[1])
            for _ in range(12):
                found = alarm(choices.choice(AGGREGATES), choices.choice((names, names[:1])),
                              choices.choice(("over", "under")), choices.randint(-3, 5), -2, 4)
                window = choices.randint(-2, 4)
                before = "open"
                for many in range(len(letters) + 1):
                    state = alarm_state(plan, letters[:many], found, window)
                    if before != "open":
                        self.assertEqual(state, before)
                    if state != "open":
                        self.assertEqual(rings_in(plan, history, found, window), state == "rings")
                    before = state
                seen.add(before)
                value = plain_value(plan, history, found[1], found[2], window)
                if value is None:
                    self.assertNotEqual(before, "rings")
        self.assertEqual(seen, {"open", "rings", "quiet"})
