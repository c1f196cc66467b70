"""Halls: they keep what they take on a disk that may be cut at any write, and they note the alarms that ring."""

from toldwhensure.alarms import check_alarm, ringing
from toldwhensure.disks import Disk, disks_after
from toldwhensure.errors import NoNote
from toldwhensure.folding import folded, join_folded, known_of_form, told_folded
from toldwhensure.letters import check_letters


class Hall:
    """A hall: it keeps the folded form of all that it took, and the notes that were acknowledged."""

    def __init__(self, plan, alarms=()):
        for alarm in alarms:
            check_alarm(plan, alarm)
        self.plan = plan
        self.alarms = tuple(alarms)
        self.kept = folded(plan, ())
        self.acknowledged = {}
        self.store = Disk("left", (), ())
        # The disk before the last deed, and the writes of that deed.
        self.before = self.store.now()
        self.steps = []

    def take(self, letters):
        """Take the letters of a bag; raise InvalidLetter, and change nothing, if one of them is not valid."""
        check_letters(self.plan, letters)
        kept = join_folded(self.plan, self.kept, folded(self.plan, letters))
        self._write(self.store.steps_to_add(("bag", tuple(letters))))
        self.kept = kept

    def take_bundle(self, form):
        """Take a bundle."""
        kept = join_folded(self.plan, self.kept, form)
        self._write(self.store.steps_to_add(("bundle", form)))
        self.kept = kept

    def told(self, aggregate, meters, window):
        """What is told after all that the hall took."""
        return told_folded(self.plan, self.kept, aggregate, meters, window)

    def notes(self):
        """The notes, a tuple in ascending order."""
        return self._notes_of(self.alarms)

    def acknowledge(self, name, window):
        """Acknowledge the note; raise NoNote, and change nothing, if the hall does not have it."""
        watching = [
            alarm[:5] + (window, window) for alarm in self.alarms
            if alarm[0] == name and alarm[5] <= window <= alarm[6]
        ]
        if (name, window) not in self._notes_of(watching):
            raise NoNote("the hall does not have this note")
        self._write(self.store.steps_to_add(("seen", name, window)))
        self.acknowledged[(name, window)] = True

    def checkpoint(self):
        """Write what is kept to the other sheet, and make that the live one."""
        pasts, letters = self.kept
        rows = [("past", past) for past in pasts]
        rows.extend([("letter", letter) for letter in letters])
        rows.extend([("seen", name, window) for name, window in self.seen()])
        self._write(self.store.steps_to_replace(rows))

    def form(self):
        """The folded form that is kept."""
        return self.kept

    def seen(self):
        """The notes that were acknowledged, a tuple in ascending order."""
        return tuple(sorted(self.acknowledged))

    def disk(self):
        """The disk as it is now."""
        return self.store.now()

    def writes(self):
        """The disks after each write of the last deed that raised no error, a tuple in order."""
        return disks_after(self.before, self.steps)

    def _notes_of(self, alarms):
        known = known_of_form(self.plan, self.kept)
        return tuple([note for note in ringing(self.plan, known, alarms) if note not in self.acknowledged])

    def _write(self, steps):
        self.before = self.store.now()
        self.steps = steps
        for step in steps:
            self.store.write(step)


def recovered(plan, alarms, disk):
    """The hall with the same plan and alarms, recovered from the live sheet of the disk."""
    hall = Hall(plan, alarms)
    hall.store = Disk(*disk)
    rows = hall.store.live_rows()
    hall.kept = _form_in(plan, rows)
    hall.acknowledged = {row[1:]: True for row in rows if row[0] == "seen"}
    return hall


def _form_in(plan, rows):
    """The folded form of all that these rows keep."""
    pasts = tuple([row[1] for row in rows if row[0] == "past"])
    left = tuple([row[1] for row in rows if row[0] == "letter"])
    taken = [letter for row in rows if row[0] == "bag" for letter in row[1]]
    form = join_folded(plan, (pasts, left), folded(plan, taken))
    for row in rows:
        if row[0] == "bundle":
            form = join_folded(plan, form, row[1])
    return form
