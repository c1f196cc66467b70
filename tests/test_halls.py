"""Points [11], [17], [35] to [39]: halls, their notes, their disks, and their recovery."""

import random

from tests.forms import AGGREGATES, Forms, plain_folded, random_history, random_plan, true_letters
from tests.support import HUGE, assert_raises_only
from tests.test_gateways import INVALID
from toldwhensure.alarms import alarm_state
from toldwhensure.folding import folded
from toldwhensure.gateways import Gateway
from toldwhensure.halls import Hall, recovered
from toldwhensure.telling import told

PLAN = (10, (("a", 0, 5, 2), ("b", -3, 9, 0)))
COUNT, SUM, MIDDLE = ("count",), ("sum",), ("rank", 1, 2)
NEW_DISK = ("left", (), ())
EMPTY = ((), ())


def read(slot, stamp, version=0, value=1, name="a"):
    return ("read", name, slot, version, stamp, value)


def close(slots, stamp, versions, name="a"):
    return ("close", name, slots, stamp, versions)


def clock(low, high, name="a"):
    return ("clock", name, low, high)


def alarm(name="x", aggregate=COUNT, meters=("a",), relation="over", limit=1, first=0, last=3):
    return name, aggregate, meters, relation, limit, first, last


# The first five make a past; the others are beside it.
LETTERS = [
    read(1, 3), read(2, 4, 1, None), close(2, 7, 3), clock(-1, 1), read(1, 5, 0, 9, "b"),
    read(3, 18, 0, 5), close(4, 20, 5), close(1, 30, 1, "b"),
]
FORM = folded(PLAN, LETTERS)
# Window 0 has the sum 10. Slot 3 of a is in window 1 for each offset that is left, slot 4 in window 1 or 2.
ALARMS = (alarm("many", COUNT, ("a", "b"), "over", 0, 0, 1), alarm("sum", SUM, ("a", "b"), "over", 9, 0, 2),
          alarm("few", COUNT, ("b",), "under", 1, -1, 2))


def sheets_after_checkpoint(disk, form, seen):
    """The disks after each write of a checkpoint, by the words of point [38]."""
    live, left, right = disk
    sheets = {"left": left, "right": right}
    other = "right" if live == "left" else "left"
    found = []

    def write(side, rows, live):
        sheets[side] = rows
        found.append((live, sheets["left"], sheets["right"]))

    if sheets[other] != ():
        write(other, (), live)
    for past in form[0]:
        write(other, sheets[other] + (("past", past),), live)
    for letter in form[1]:
        write(other, sheets[other] + (("letter", letter),), live)
    for note in seen:
        write(other, sheets[other] + (("seen", *note),), live)
    write(other, sheets[other], other)
    if sheets[live] != ():
        write(live, (), other)
    return tuple(found)


class Halls(Forms):
    def state_of(self, hall):
        """All that can be asked of the hall that a deed may change."""
        return hall.disk(), hall.form(), hall.seen(), hall.notes(), hall.writes(), hall.told(SUM, ("a", "b"), 0)

    def hall_with(self, *bags, alarms=()):
        hall = Hall(PLAN, alarms)
        for bag in bags:
            hall.take(bag)
        return hall

    def assert_refused(self, hall, error, call, *arguments):
        before = self.state_of(hall)
        assert_raises_only(self, error, call, *arguments)
        self.assertEqual(self.state_of(hall), before)


class NewHalls(Halls):
    def test_a_new_one(self):
        for hall in (Hall(PLAN), Hall(PLAN, ()), Hall(PLAN, []), Hall(PLAN, ALARMS), Hall(PLAN, alarms=list(ALARMS))):
            self.assertEqual(hall.disk(), NEW_DISK)
            self.assertEqual(hall.form(), EMPTY)
            self.assertEqual(hall.seen(), ())
            self.assertEqual(hall.writes(), ())
            self.assertEqual(hall.notes(), ())
            for aggregate in AGGREGATES:
                self.assertEqual(hall.told(aggregate, ("a",), 0), told(PLAN, [], aggregate, ("a",), 0))

    def test_alarms_that_ring_without_letters(self):
        hall = Hall(PLAN, [alarm("always", limit=-1, first=-2, last=0), alarm("y", ("among", 6, 7), relation="under")])
        notes = (("always", -2), ("always", -1), ("always", 0), ("y", 0), ("y", 1), ("y", 2), ("y", 3))
        self.assertEqual(hall.notes(), notes)
        hall.acknowledge("always", -1)
        self.assertEqual(hall.notes(), notes[:1] + notes[2:])
        self.assertEqual(hall.disk(), ("left", (("seen", "always", -1),), ()))

    def test_wrong_alarms(self):
        wrong = (
            alarm(""), alarm("X"), alarm(aggregate=("among", 1, 0)), alarm(aggregate=("rank", 1, 0)), alarm(meters=()),
            alarm(meters=("c",)), alarm(meters=("b", "a")), alarm(relation="above"), alarm(first=1, last=0),
        )
        for bad in wrong:
            for at in range(len(ALARMS) + 1):
                alarms = list(ALARMS[:at]) + [bad] + list(ALARMS[at:])
                for passed in (alarms, tuple(alarms)):
                    assert_raises_only(self, "InvalidAlarm", Hall, PLAN, passed)
                    assert_raises_only(self, "InvalidAlarm", recovered, PLAN, passed, NEW_DISK)
            assert_raises_only(self, "InvalidAlarm", Hall, PLAN, [bad])

    def test_lists_that_are_changed_afterwards(self):
        alarms = list(ALARMS)
        hall = Hall(PLAN, alarms)
        again = recovered(PLAN, alarms, NEW_DISK)
        self.assertEqual(alarms, list(ALARMS))
        alarms.clear()
        alarms.append(alarm("always", limit=-1))
        for found in (hall, again):
            self.assertEqual(found.notes(), ())
            found.take(LETTERS)
            self.assertEqual(found.notes()[0], ("few", -1))

    def test_two_halls_do_not_touch_each_other(self):
        one, other = Hall(PLAN, ALARMS), Hall(PLAN, ALARMS)
        one.take(LETTERS)
        one.acknowledge("sum", 0)
        one.checkpoint()
        self.assertEqual(self.state_of(other), self.state_of(Hall(PLAN, ALARMS)))
        before = self.state_of(one)
        other.take([read(2, 8)])
        other.checkpoint()
        self.assertEqual(self.state_of(one), before)


class Deeds(Halls):
    def test_take(self):
        hall = Hall(PLAN)
        self.assertIsNone(hall.take(LETTERS[:3]))
        disk = ("left", (("bag", tuple(LETTERS[:3])),), ())
        self.assertEqual(hall.disk(), disk)
        self.assertEqual(hall.writes(), (disk,))
        self.assertEqual(hall.form(), folded(PLAN, LETTERS[:3]))
        hall.take(tuple(LETTERS[:2:-1]))
        disk = ("left", (("bag", tuple(LETTERS[:3])), ("bag", tuple(LETTERS[:2:-1]))), ())
        self.assertEqual(hall.disk(), disk)
        self.assertEqual(hall.writes(), (disk,))
        self.assertEqual(hall.form(), FORM)
        self.assert_tuples((hall.disk(), hall.writes(), hall.form()))

    def test_a_bag_without_letters(self):
        for nothing in ([], ()):
            hall = Hall(PLAN)
            hall.take(nothing)
            self.assertEqual(hall.disk(), ("left", (("bag", ()),), ()))
            self.assertEqual(hall.writes(), (hall.disk(),))
            self.assertEqual(hall.form(), EMPTY)

    def test_letters_twice_in_the_order_in_which_they_were_taken(self):
        letters = tuple(LETTERS[::-1] + LETTERS[:2] * 2)
        hall = self.hall_with(letters, letters)
        self.assertEqual(hall.disk(), ("left", (("bag", letters), ("bag", letters)), ()))
        self.assertEqual(hall.form(), FORM)

    def test_letters_that_are_changed_afterwards(self):
        letters = list(LETTERS)
        hall = Hall(PLAN, ALARMS)
        hall.take(letters)
        self.assertEqual(letters, LETTERS)
        before = self.state_of(hall)
        letters.clear()
        self.assertEqual(self.state_of(hall), before)
        letters.extend([read(9, 90), read(1, 3)])
        self.assertEqual(self.state_of(hall), before)

    def test_take_bundle(self):
        hall = Hall(PLAN)
        gateway = Gateway(PLAN)
        gateway.take(LETTERS[:4])
        form = gateway.bundle()
        self.assertIsNone(hall.take_bundle(form))
        self.assertEqual(hall.disk(), ("left", (("bundle", form),), ()))
        self.assertEqual(hall.writes(), (hall.disk(),))
        self.assertEqual(hall.form(), form)
        hall.take(LETTERS[3:])
        self.assertEqual(hall.form(), FORM)
        hall.take_bundle(form)
        hall.take_bundle(EMPTY)
        hall.take_bundle(hall.form())
        self.assertEqual(hall.form(), FORM)
        self.assertEqual(hall.disk()[1], (
            ("bundle", form), ("bag", tuple(LETTERS[3:])), ("bundle", form), ("bundle", EMPTY), ("bundle", FORM)
        ))

    def test_not_valid(self):
        for bad in INVALID:
            for at in (0, 3, len(LETTERS)):
                letters = LETTERS[:at] + [bad] + LETTERS[at:]
                hall = Hall(PLAN, ALARMS)
                self.assert_refused(hall, "InvalidLetter", hall.take, letters)
                hall.take(LETTERS[:3])
                hall.acknowledge("many", 0)
                self.assert_refused(hall, "InvalidLetter", hall.take, letters)
                self.assert_refused(hall, "InvalidLetter", hall.take, tuple(letters))
                hall.checkpoint()
                self.assert_refused(hall, "InvalidLetter", hall.take, [bad])
                hall.take(LETTERS)
                self.assertEqual(hall.form(), FORM)

    def test_asking_changes_nothing(self):
        hall = self.hall_with(LETTERS, alarms=ALARMS)
        self.assertEqual(self.state_of(hall), self.state_of(hall))
        hall.acknowledge("sum", 0)
        hall.checkpoint()
        self.assertEqual(self.state_of(hall), self.state_of(hall))
        self.assert_tuples(self.state_of(hall)[:5])

    def test_results_stay_as_they_are(self):
        hall = self.hall_with(LETTERS[:3], alarms=ALARMS)
        before = self.state_of(hall)
        hall.take(LETTERS)
        hall.acknowledge("many", 0)
        hall.checkpoint()
        self.assertEqual(before, self.state_of(self.hall_with(LETTERS[:3], alarms=ALARMS)))

    def test_writes_after_an_error(self):
        hall = self.hall_with(LETTERS, alarms=ALARMS)
        hall.acknowledge("many", 0)
        written = hall.writes()
        self.assertEqual(written, (("left", (("bag", tuple(LETTERS)), ("seen", "many", 0)), ()),))
        self.assert_refused(hall, "NoNote", hall.acknowledge, "many", 0)
        self.assert_refused(hall, "InvalidLetter", hall.take, INVALID[:1])
        self.assertEqual(hall.writes(), written)

    def test_told(self):
        hall = self.hall_with(LETTERS[:4])
        hall.take_bundle(folded(PLAN, LETTERS[4:]))
        for aggregate in AGGREGATES + (("among", 0, 9),):
            for meters in (("a",), ("b",), ("a", "b")):
                for window in range(-2, 5):
                    answer = told(PLAN, LETTERS, aggregate, meters, window)
                    self.assertEqual(hall.told(aggregate, meters, window), answer)
        self.assertEqual(hall.told(SUM, ("a", "b"), 0), (10, 10))

    def test_very_large_numbers(self):
        plan = (HUGE, (("a", -HUGE, HUGE, 1),))
        alarms = [alarm("x", SUM, relation="over", limit=HUGE - 1, first=HUGE - 9, last=HUGE + 9)]
        letters = [read(1, HUGE * HUGE + 1, 0, HUGE), close(1, HUGE * (HUGE + 3) + 1, 1)]
        hall = Hall(plan, alarms)
        hall.take(letters)
        self.assertEqual(hall.told(SUM, ("a",), HUGE), (HUGE, HUGE))
        self.assertEqual(hall.notes(), (("x", HUGE),))
        hall.acknowledge("x", HUGE)
        hall.checkpoint()
        self.assertEqual(hall.disk(), (
            "right", (), (("past", ("a", 1, letters[1][3], 1, ((HUGE, HUGE, 1),))), ("seen", "x", HUGE))
        ))
        again = recovered(plan, alarms, hall.disk())
        self.assertEqual(again.told(SUM, ("a",), HUGE), (HUGE, HUGE))
        self.assertEqual(again.notes(), ())


class Notes(Halls):
    def test_in_ascending_order(self):
        for alarms in (ALARMS, ALARMS[::-1], list(ALARMS[1:] + ALARMS[:1])):
            hall = self.hall_with(LETTERS, alarms=alarms)
            notes = (("few", -1), ("few", 1), ("few", 2), ("many", 0), ("many", 1), ("sum", 0))
            self.assertEqual(hall.notes(), notes)
            hall.acknowledge("many", 0)
            self.assertEqual(hall.notes(), notes[:3] + notes[4:])

    def test_names_of_which_one_begins_another(self):
        alarms = [alarm(name, limit=-1, first=-1, last=10) for name in ("b", "aa", "ab", "a")]
        hall = Hall(PLAN, alarms)
        self.assertEqual(hall.notes(), tuple((name, window) for name in ("a", "aa", "ab", "b") for window in range(-1, 11)))

    def test_only_what_rings(self):
        hall = self.hall_with([read(1, 3)], alarms=[alarm("x", limit=0), alarm("y", limit=1), alarm("z", relation="under")])
        self.assertEqual(hall.notes(), ())
        hall.take([close(1, 14, 1)])
        self.assertEqual(hall.notes(), (("x", 0),))
        hall.take([close(1, 30, 1)])
        self.assertEqual(hall.notes(), (("x", 0), ("z", 1)))
        hall.take([clock(0, 2)])
        self.assertEqual(hall.notes(), (("x", 0), ("z", 1), ("z", 2)))

    def test_notes_stay_until_they_are_acknowledged(self):
        choices = random.Random(21)
        for _ in range(20):
            plan = random_plan(choices)
            letters = true_letters(choices, random_history(choices, plan))
            hall = Hall(plan, random_alarms(choices, plan))
            before = ()
            for letter in letters:
                hall.take([letter])
                self.assertLessEqual(set(before), set(hall.notes()))
                before = hall.notes()
                if before and choices.random() < 0.3:
                    hall.acknowledge(*choices.choice(before))
                    before = hall.notes()
                self.assertEqual(set(hall.seen()) & set(before), set())

    def test_acknowledged_notes(self):
        hall = self.hall_with(LETTERS, alarms=ALARMS)
        notes = hall.notes()
        self.assertEqual(hall.seen(), ())
        rows = [("bag", tuple(LETTERS))]
        gone = []
        for note in (notes[5], notes[0], notes[4], notes[1]):
            self.assertIsNone(hall.acknowledge(*note))
            gone.append(note)
            rows.append(("seen", *note))
            self.assertEqual(hall.notes(), tuple(left for left in notes if left not in gone))
            self.assertEqual(hall.seen(), tuple(sorted(gone)))
            self.assertEqual(hall.disk(), ("left", tuple(rows), ()))
            self.assertEqual(hall.writes(), (hall.disk(),))
            self.assertEqual(hall.form(), FORM)
        hall.take(LETTERS)
        self.assertEqual(hall.seen(), tuple(sorted(gone)))
        self.assertEqual(hall.notes(), tuple(left for left in notes if left not in gone))

    def test_no_note(self):
        hall = self.hall_with(LETTERS, alarms=ALARMS)
        hall.acknowledge("many", 1)
        for name, window in (
            # Open or quiet; outside of the windows; no such alarm; acknowledged.
            ("sum", 1), ("sum", 2), ("few", 0), ("many", 2), ("many", -1), ("few", -2), ("few", 3), ("few", HUGE),
            ("few", -HUGE), ("man", 0), ("", 0), ("fewer", 1), ("many ", 0), ("many", 1),
        ):
            self.assert_refused(hall, "NoNote", hall.acknowledge, name, window)
        hall = Hall(PLAN)
        self.assert_refused(hall, "NoNote", hall.acknowledge, "x", 0)

    def test_acknowledged_after_a_recovery(self):
        hall = self.hall_with(LETTERS, alarms=ALARMS)
        hall.acknowledge("many", 1)
        for again in (recovered(PLAN, ALARMS, hall.disk()), recovered(PLAN, ALARMS, self.checked(hall).disk())):
            self.assertEqual(again.seen(), (("many", 1),))
            self.assert_refused(again, "NoNote", again.acknowledge, "many", 1)
            again.acknowledge("many", 0)

    def checked(self, hall):
        hall.checkpoint()
        return hall

    def test_many_notes(self):
        alarms = [alarm("x", limit=-1, first=0, last=399), alarm("y", SUM, ("a", "b"), "over", 99, 0, 399)]
        hall = Hall(PLAN, alarms)
        self.assertEqual(hall.notes(), tuple(("x", window) for window in range(400)))
        for window in range(399, -1, -1):
            hall.acknowledge("x", window)
        self.assertEqual(hall.notes(), ())
        self.assertEqual(hall.seen(), tuple(("x", window) for window in range(400)))
        self.assertEqual(hall.disk()[1], tuple(("seen", "x", window) for window in range(399, -1, -1)))
        hall.checkpoint()
        self.assertEqual(hall.disk(), ("right", (), tuple(("seen", "x", window) for window in range(400))))
        self.assertEqual(len(hall.writes()), 402)
        self.assertEqual(recovered(PLAN, alarms, hall.disk()).seen(), hall.seen())


class Checkpoints(Halls):
    def assert_checkpoint(self, hall):
        """A checkpoint writes what point [38] tells, and changes nothing that is kept."""
        before = hall.disk(), hall.form(), hall.seen(), hall.notes()
        self.assertIsNone(hall.checkpoint())
        written = sheets_after_checkpoint(before[0], hall.form(), hall.seen())
        self.assertEqual(hall.writes(), written)
        self.assertEqual(hall.disk(), written[-1])
        self.assertEqual((hall.form(), hall.seen(), hall.notes()), before[1:])
        return written

    def test_a_new_hall(self):
        hall = Hall(PLAN)
        self.assertEqual(self.assert_checkpoint(hall), (("right", (), ()),))
        self.assertEqual(self.assert_checkpoint(hall), (("left", (), ()),))

    def test_an_empty_bag(self):
        hall = self.hall_with([])
        row = ("bag", ())
        self.assertEqual(self.assert_checkpoint(hall), (("right", (row,), ()), ("right", (), ())))

    def test_letters(self):
        letters = [read(2, 4), clock(0, 1), close(2, 8, 2)]
        hall = self.hall_with(letters)
        bag = ("bag", tuple(letters))
        one, two, three = [("letter", letter) for letter in (clock(0, 1), close(2, 8, 2), read(2, 4))]
        self.assertEqual(self.assert_checkpoint(hall), (
            ("left", (bag,), (one,)), ("left", (bag,), (one, two)), ("left", (bag,), (one, two, three)),
            ("right", (bag,), (one, two, three)), ("right", (), (one, two, three)),
        ))
        # Twice in a row.
        self.assertEqual(self.assert_checkpoint(hall), (
            ("right", (one,), (one, two, three)), ("right", (one, two), (one, two, three)),
            ("right", (one, two, three), (one, two, three)), ("left", (one, two, three), (one, two, three)),
            ("left", (one, two, three), ()),
        ))

    def test_pasts_letters_and_notes_in_their_order(self):
        hall = self.hall_with(LETTERS, alarms=ALARMS)
        for note in (("sum", 0), ("few", 2), ("few", -1)):
            hall.acknowledge(*note)
        rows = [("past", past) for past in FORM[0]] + [("letter", letter) for letter in FORM[1]]
        rows += [("seen", "few", -1), ("seen", "few", 2), ("seen", "sum", 0)]
        self.assertEqual(len(FORM[0]), 2)
        self.assertGreater(len(FORM[1]), 2)
        written = self.assert_checkpoint(hall)
        self.assertEqual(hall.disk(), ("right", (), tuple(rows)))
        self.assertEqual(len(written), len(rows) + 2)
        hall.take([read(3, 18)[:5] + (5,)])
        hall.acknowledge("many", 0)
        rows += [("bag", (read(3, 18, 0, 5),)), ("seen", "many", 0)]
        self.assertEqual(hall.disk(), ("right", (), tuple(rows)))
        self.assert_checkpoint(hall)
        self.assertEqual(hall.disk()[2], ())

    def test_a_full_other_sheet(self):
        hall = self.hall_with(LETTERS, alarms=ALARMS)
        hall.checkpoint()
        for cut in hall.writes():
            again = recovered(PLAN, ALARMS, cut)
            written = self.assert_checkpoint(again)
            live, left, right = cut
            if () not in (left, right):
                other = "left" if live == "right" else "right"
                self.assertEqual(written[0][("live", "left", "right").index(other)], ())
                self.assertEqual(written[0][0], live)
            self.assertIn((), written[-1])

    def test_bundles(self):
        hall = Hall(PLAN)
        hall.take_bundle(FORM)
        self.assert_checkpoint(hall)
        self.assertEqual(hall.disk()[2], tuple([("past", past) for past in FORM[0]]
                                               + [("letter", letter) for letter in FORM[1]]))


def random_alarms(choices, plan):
    names = tuple(meter[0] for meter in plan[1])
    return tuple(
        alarm(name, choices.choice(AGGREGATES), choices.choice((names, names[:1], names[-1:])),
              choices.choice(("over", "under")), choices.randint(-2, 5), -2, choices.randint(-2, 4))
        for name in choices.sample(("a", "ab", "b", "x", "over"), choices.randint(1, 4))
    )


class Recovered(Halls):
    def kept(self, hall):
        return hall.form(), hall.seen(), hall.notes(), hall.told(SUM, ("a",), 0), hall.told(MIDDLE, ("a",), 1)

    def assert_recovered(self, plan, alarms, disk, kept):
        """The hall that is recovered from the disk, which has kept just this."""
        again = recovered(plan, alarms, disk)
        self.assertEqual(again.disk(), disk)
        self.assertEqual(again.writes(), ())
        self.assertEqual(self.kept(again), kept)
        # It can be cut again and again.
        self.assertEqual(self.kept(recovered(plan, list(alarms), again.disk())), kept)
        self.assertEqual(again.disk(), disk)
        return again

    def test_new_halls(self):
        hall = Hall(PLAN, ALARMS)
        self.assert_recovered(PLAN, ALARMS, NEW_DISK, self.kept(hall))
        hall.checkpoint()
        self.assert_recovered(PLAN, ALARMS, hall.disk(), self.kept(hall))

    def test_each_kind_of_row(self):
        hall = Hall(PLAN, ALARMS)
        hall.take(LETTERS[:2])
        self.assert_recovered(PLAN, ALARMS, hall.disk(), self.kept(hall))
        hall.take_bundle(folded(PLAN, LETTERS[1:6]))
        self.assert_recovered(PLAN, ALARMS, hall.disk(), self.kept(hall))
        hall.take(LETTERS[6:])
        hall.acknowledge("many", 0)
        self.assert_recovered(PLAN, ALARMS, hall.disk(), self.kept(hall))
        hall.checkpoint()
        self.assert_recovered(PLAN, ALARMS, hall.disk(), self.kept(hall))
        hall.take([read(5, 31)])
        hall.acknowledge("few", 2)
        hall.take_bundle(FORM)
        again = self.assert_recovered(PLAN, ALARMS, hall.disk(), self.kept(hall))
        self.assertEqual(again.seen(), (("few", 2), ("many", 0)))
        self.assertEqual(again.form(), folded(PLAN, LETTERS + [read(5, 31)]))

    def test_only_the_live_sheet_counts(self):
        one, other = ("bag", tuple(LETTERS)), ("bag", (read(1, 7, 0, 5),))
        for disk, letters in ((("left", (one,), (other,)), LETTERS), (("right", (one,), (other,)), other[1])):
            again = recovered(PLAN, (), disk)
            self.assertEqual(again.form(), folded(PLAN, letters))
            self.assertEqual(again.disk(), disk)

    def test_letters_that_settle_only_together_with_a_past(self):
        hall = self.hall_with([read(1, 8), close(1, 9, 1), clock(0, 1)])
        hall.checkpoint()
        self.assertEqual(hall.form()[1], (clock(0, 1),))
        hall.take([read(2, 9)])
        hall.take([close(2, 19, 2)])
        again = self.assert_recovered(PLAN, (), hall.disk(), self.kept(hall))
        self.assertEqual(again.form(), hall.form())

    def test_within_a_checkpoint(self):
        hall = self.hall_with(LETTERS, alarms=ALARMS)
        hall.acknowledge("sum", 0)
        for _ in range(3):
            before = self.kept(hall)
            hall.checkpoint()
            for cut in hall.writes():
                again = self.assert_recovered(PLAN, ALARMS, cut, before)
                # It goes on as the other one does.
                for found in (again, recovered(PLAN, ALARMS, hall.disk())):
                    found.take([read(7, 45)])
                    found.acknowledge("few", 2)
                    found.checkpoint()
                    self.assertEqual(found.form(), folded(PLAN, LETTERS + [read(7, 45)]))
                    self.assertEqual(found.seen(), (("few", 2), ("sum", 0)))
                    self.assertEqual(found.disk()[1 if found.disk()[0] == "right" else 2], ())

    def test_arguments_stay_as_they_were(self):
        hall = self.hall_with(LETTERS, alarms=ALARMS)
        disk = hall.disk()
        again = recovered(PLAN, ALARMS, disk)
        again.take([read(7, 45)])
        again.checkpoint()
        self.assertEqual(disk, ("left", (("bag", tuple(LETTERS)),), ()))
        self.assertEqual(hall.disk(), disk)
        self.assertEqual(hall.form(), FORM)

    def test_each_write_of_each_deed(self):
        choices = random.Random(22)
        for _ in range(40):
            plan = random_plan(choices)
            letters = true_letters(choices, random_history(choices, plan))
            alarms = random_alarms(choices, plan)
            hall = Hall(plan, alarms)
            taken, seen = [], []
            for _ in range(12):
                before = hall.disk(), self.kept(hall)
                added = self.random_deed(choices, plan, hall, letters, taken, seen)
                self.assertEqual(hall.form(), plain_folded(plan, taken))
                self.assertEqual(hall.seen(), tuple(sorted(seen)))
                self.assertEqual(hall.writes()[-1], hall.disk())
                self.assert_recovered(plan, alarms, before[0], before[1])
                for cut in hall.writes():
                    # Only a checkpoint has several writes, and it changes nothing that is kept.
                    self.assert_recovered(plan, alarms, cut, self.kept(hall))
                if added is not None:
                    live = hall.disk()[0]
                    sheet = 1 if live == "left" else 2
                    self.assertEqual(hall.disk()[sheet], before[0][sheet] + (added,))
                    self.assertEqual(hall.disk()[3 - sheet], before[0][3 - sheet])
                    self.assertEqual(hall.writes(), (hall.disk(),))
                if choices.random() < 0.3:
                    # A cut: the hall goes on from one of the disks that were there.
                    hall = recovered(plan, alarms, choices.choice(hall.writes()))

    def random_deed(self, choices, plan, hall, letters, taken, seen):
        """Do some deed, and return the row that it adds; None for a checkpoint."""
        deed = choices.randrange(4)
        bag = choices.sample(letters, min(len(letters), choices.randint(0, 6)))
        if deed == 0 or (deed == 2 and not hall.notes()):
            hall.take(bag)
            taken += bag
            return "bag", tuple(bag)
        if deed == 1:
            form = folded(plan, bag)
            hall.take_bundle(form)
            taken += bag
            return "bundle", form
        if deed == 2:
            note = choices.choice(hall.notes())
            hall.acknowledge(*note)
            seen.append(note)
            return ("seen", *note)
        before = hall.disk()
        hall.checkpoint()
        self.assertEqual(hall.writes(), sheets_after_checkpoint(before, hall.form(), hall.seen()))
        return None

    def test_told_and_notes_after_checkpoints_and_recoveries(self):
        choices = random.Random(23)
        for _ in range(60):
            plan = random_plan(choices)
            letters = true_letters(choices, random_history(choices, plan))
            names = tuple(meter[0] for meter in plan[1])
            alarms = random_alarms(choices, plan)
            hall = Hall(plan, alarms)
            for start in range(0, len(letters), 4):
                bag = letters[start:start + 4]
                if choices.random() < 0.5:
                    hall.take(bag)
                else:
                    hall.take_bundle(folded(plan, bag))
                if choices.random() < 0.3:
                    hall.checkpoint()
                if choices.random() < 0.3:
                    hall = recovered(plan, alarms, choices.choice(hall.writes()))
            for aggregate in AGGREGATES:
                for window in range(-2, 4):
                    self.assertEqual(hall.told(aggregate, names, window), told(plan, letters, aggregate, names, window))
            self.assertEqual(hall.notes(), tuple(sorted(
                (found[0], window) for found in alarms for window in range(found[5], found[6] + 1)
                if alarm_state(plan, letters, found, window) == "rings"
            )))
