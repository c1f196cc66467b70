"""Points [18], [32], [35], [39], [46] and [47]: sources, lines, gateways and a hall together."""

import random
import unittest

from tests.forms import AGGREGATES, plain_folded
from toldwhensure.alarms import rings_in
from toldwhensure.folding import folded
from toldwhensure.gateways import Gateway
from toldwhensure.halls import Hall, recovered
from toldwhensure.histories import agrees, is_history
from toldwhensure.lines import Line
from toldwhensure.plainly import plain_value
from toldwhensure.sources import Source
from toldwhensure.telling import is_final, told

WINDOWS = range(-2, 8)


class World:
    """Meters whose letters go over lines to gateways and to a hall, each of which may lose what it has."""

    def __init__(self, choices):
        self.choices = choices
        length = choices.choice((3, 4, 10))
        meters = [(name, choices.randint(-2, 1), choices.randint(1, 4), choices.choice((0, 1, 3))) for name in "abc"]
        self.plan = (length, tuple(meters[:choices.randint(1, 3)]))
        self.names = tuple(meter[0] for meter in self.plan[1])
        self.sources = {name: Source(self.plan, name, choices.randint(-error, error))
                        for name, _, _, error in self.plan[1]}
        self.times = {name: -3 for name in self.names}
        self.lines = {name: Line() for name in self.names}
        self.gateways = [Gateway(self.plan) for _ in range(2)]
        # The letters behind what each gateway and the hall keep.
        self.behind = [[], []]
        self.kept = []
        self.bundles = []
        self.alarms = tuple(
            (name, choices.choice(AGGREGATES), choices.choice((self.names, self.names[:1])),
             choices.choice(("over", "under")), choices.randint(-2, 5), WINDOWS[0], WINDOWS[-1])
            for name in ("x", "y", "z")
        )
        self.hall = Hall(self.plan, self.alarms)
        self.noted = []

    def history(self):
        return tuple(self.sources[name].log() for name in self.names)

    def meter_does(self):
        choices = self.choices
        name = choices.choice(self.names)
        source = self.sources[name]
        _, offset, slots = source.log()
        low, high = next(meter[1:3] for meter in self.plan[1] if meter[0] == name)
        deed = choices.random()
        self.times[name] += choices.choice((0, 0, 1, 2))
        if deed < 0.5:
            source.record(self.times[name], choices.randint(low, high))
        elif deed < 0.7 and slots:
            slot = choices.randint(1, len(slots))
            try:
                if choices.random() < 0.5:
                    source.correct(slot, choices.randint(low, high))
                else:
                    source.take_back(slot)
            except ValueError:
                # It is closed.
                pass
        elif deed < 0.85:
            source.close(self.times[name])
        elif deed < 0.95:
            source.check(offset - choices.randint(0, 2), offset + choices.randint(0, 2))

    def letters_go(self):
        choices = self.choices
        name = choices.choice(self.names)
        line = self.lines[name]
        if choices.random() < 0.5:
            due = self.sources[name].due()
            line.send([letter for letter in due if choices.random() < 0.7])
        waiting = len(line.waiting())
        for _ in range(min(waiting, choices.randint(0, 5))):
            index = choices.randrange(len(line.waiting()))
            fate = choices.random()
            if fate < 0.2:
                line.lose(index)
            elif fate < 0.4:
                line.double(index)
            else:
                self.arrive(line.deliver(index))

    def arrive(self, letter):
        at = self.choices.randrange(3)
        if at == 2:
            self.hall_does(lambda hall: hall.take([letter]), [letter])
        else:
            self.gateways[at].take([letter])
            self.behind[at].append(letter)

    def bundles_go(self):
        choices = self.choices
        at = choices.randrange(2)
        self.bundles.append((self.gateways[at].bundle(), list(self.behind[at])))
        bundle, letters = choices.choice(self.bundles)
        if choices.random() < 0.3:
            self.gateways[1 - at].take_bundle(bundle)
            self.behind[1 - at] += letters
        elif choices.random() < 0.7:
            self.hall_does(lambda hall: hall.take_bundle(bundle), letters)

    def hall_works(self):
        choices = self.choices
        if choices.random() < 0.3:
            self.hall_does(lambda hall: hall.checkpoint(), [])
        notes = self.hall.notes()
        if notes and choices.random() < 0.5:
            note = choices.choice(notes)
            if self.hall_does(lambda hall: hall.acknowledge(*note), []):
                self.noted.append(note)

    def hall_does(self, deed, letters):
        """The hall does the deed, perhaps with a cut; returns whether it is done."""
        before = self.hall.disk()
        deed(self.hall)
        done = True
        if self.choices.random() < 0.2:
            cuts = (before,) + self.hall.writes()
            cut = self.choices.randrange(len(cuts))
            self.hall = recovered(self.plan, self.alarms, cuts[cut])
            done = cut > 0
        if done:
            self.kept += letters
            # The letters are kept, so their meters need not send them again.
            for letter in letters:
                self.sources[letter[1]].acknowledge(letter)
        return done

    def finish(self):
        """All logs are closed and checked, and all letters reach the hall."""
        for name, source in self.sources.items():
            source.close(max(self.times[name], (WINDOWS[-1] + 1) * self.plan[0] + 3))
            offset = source.log()[1]
            source.check(offset, offset)
        for _ in range(10000):
            if not any(source.due() for source in self.sources.values()):
                return
            self.letters_go()
            self.bundles_go()
            self.hall_works()


class Together(unittest.TestCase):
    def run_world(self, world, watched):
        """Let the world go on and return what was told of the watched aggregates on the way."""
        told_on_the_way = []
        for number in range(60):
            world.meter_does()
            world.letters_go()
            world.bundles_go()
            world.hall_works()
            if number % 4 == 0:
                told_on_the_way.append([world.hall.told(*asked) for asked in watched])
                # What is told is never false for the logs as they are now either.
                for asked, answer in zip(watched, told_on_the_way[-1]):
                    self.assert_within(asked[0], plain_value(world.plan, world.history(), *asked), answer)
        world.finish()
        return told_on_the_way

    def assert_within(self, aggregate, value, answer):
        low, high = answer[-2:]
        if value is None:
            self.assertIs(answer[0], True)
            return
        if aggregate[0] == "rank":
            self.assertIsNotNone(low)
        self.assertTrue((low is None or low <= value) and (high is None or value <= high))

    def assert_shrinks(self, aggregate, before, answer):
        if is_final(aggregate, before):
            self.assertEqual(answer, before)
        if aggregate[0] == "rank":
            self.assertTrue(before[0] or not answer[0])
            if None in (before[-1], answer[-1]):
                self.assertIsNone(answer[-1])
                return
        for sign, one, other in ((1, before[-2], answer[-2]), (-1, before[-1], answer[-1])):
            self.assertTrue(one is None or sign * one <= sign * other)

    def test_all_that_is_told(self):
        choices = random.Random(24)
        for _ in range(15):
            world = World(choices)
            watched = [(choices.choice(AGGREGATES), choices.choice((world.names, world.names[:1])), window)
                       for window in WINDOWS for _ in range(2)]
            answers = self.run_world(world, watched)
            history = world.history()
            self.assertIs(is_history(world.plan, history), True)
            self.assertIs(agrees(history, world.kept), True)
            last = [world.hall.told(*asked) for asked in watched]
            for found, following in zip(answers, answers[1:] + [last]):
                for asked, answer, later in zip(watched, found, following):
                    self.assert_within(asked[0], plain_value(world.plan, history, *asked), answer)
                    self.assert_shrinks(asked[0], answer, later)
            self.assert_final(world, history)

    def assert_final(self, world, history):
        """All letters came, so what the hall tells is the plain value of the logs."""
        self.assertEqual([source.due() for source in world.sources.values()], [()] * len(world.names))
        self.assertEqual(world.hall.form(), folded(world.plan, world.kept))
        self.assertEqual(world.hall.form(), plain_folded(world.plan, world.kept))
        self.assertEqual(world.hall.seen(), tuple(sorted(world.noted)))
        for aggregate in AGGREGATES:
            for window in WINDOWS:
                value = plain_value(world.plan, history, aggregate, world.names, window)
                answer = world.hall.told(aggregate, world.names, window)
                self.assertIs(is_final(aggregate, answer), True)
                self.assertEqual(answer, told(world.plan, world.kept, aggregate, world.names, window))
                if aggregate[0] == "rank":
                    self.assertEqual(answer, (value is None, value, value))
                else:
                    self.assertEqual(answer, (value, value))
        rings = {(found[0], window) for found in world.alarms for window in WINDOWS
                 if rings_in(world.plan, history, found, window)}
        self.assertEqual(set(world.hall.notes()) | set(world.hall.seen()), rings)
        self.assertEqual(set(world.hall.notes()) & set(world.hall.seen()), set())

    def test_what_rings_rings_in_the_end(self):
        choices = random.Random(25)
        for _ in range(8):
            world = World(choices)
            noted = set()
            for _ in range(50):
                world.meter_does()
                world.letters_go()
                world.bundles_go()
                noted |= set(world.hall.notes()) | set(world.hall.seen())
                world.hall_works()
            world.finish()
            for name, window in noted:
                found = next(found for found in world.alarms if found[0] == name)
                self.assertIs(rings_in(world.plan, world.history(), found, window), True)
            self.assert_final(world, world.history())

    def test_final_before_the_end(self):
        # Point [47] for one window, while the meter goes on, and while the letters of the other one are lost.
        plan = (10, (("a", 0, 5, 2), ("b", 0, 5, 0)))
        source, other, line = Source(plan, "a", 1), Source(plan, "b", 0), Line()
        hall = Hall(plan, [("x", ("sum",), ("a",), "over", 6, 0, 3)])
        for stamp, value in ((1, 4), (6, 3), (10, 2), (17, 5)):
            source.record(stamp, value)
        source.take_back(3)
        other.record(3, 3)
        source.close(10)
        line.send(source.due())
        for _ in range(len(line.waiting())):
            line.double(0)
            hall.take([line.deliver(len(line.waiting()) // 2)])
        while line.waiting():
            hall.take([line.deliver(0)])
        # The closed stamp with the least offset that is left is not yet at the end of the window: slot 3 may change.
        self.assertEqual(hall.told(("sum",), ("a",), 0), (3, 12))
        source.close(12)
        hall.take(source.due()[-1:])
        # A slot may be in one window or another.
        self.assertEqual(hall.told(("sum",), ("a",), 0), (3, 7))
        source.check(0, 2)
        hall.take(source.due()[-1:])
        self.assertEqual(hall.told(("sum",), ("a",), 0), (7, 7))
        self.assertEqual(hall.notes(), (("x", 0),))
        self.assertEqual(hall.told(("sum",), ("a", "b"), 0), (7, None))
        source.record(19, 1)
        hall.take(source.due())
        self.assertEqual(hall.told(("sum",), ("a",), 0), (7, 7))
        self.assertEqual(plain_value(plan, (source.log(), other.log()), ("sum",), ("a",), 0), 7)
