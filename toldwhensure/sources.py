"""Sources: meters that keep their logs and make letters about them."""

from toldwhensure.errors import Closed, InvalidEntry, NoSlot
from toldwhensure.plans import meter_of


class Slot:
    """A slot of the log."""

    def __init__(self, stamp, value):
        self.stamp = stamp
        self.versions = [value]


# The messages name no numbers: Python refuses to write out very large integers.
class Source:
    """A meter of the plan with its log and its due letters."""

    def __init__(self, plan, name, offset):
        self.meter = meter_of(plan, name)
        self.offset = offset
        self.slots = []
        self.closed_number = 0
        # None before the first "close" letter.
        self.closed_stamp = None
        # The due letters, in the order in which they were made.
        self.unacknowledged = {}

    def record(self, stamp, value):
        """Record a reading and return the number of its slot; raise InvalidEntry if it is not right."""
        if len(self.slots) > 0 and stamp < self.slots[-1].stamp:
            raise InvalidEntry("the stamp is less than that of the slot before")
        if self.closed_stamp is not None and stamp < self.closed_stamp:
            raise InvalidEntry("the stamp is less than the closed stamp")
        self._check_value(value)
        self.slots.append(Slot(stamp, value))
        self._tell_last_version(len(self.slots))
        return len(self.slots)

    def correct(self, slot, value):
        """Correct the slot; raise NoSlot, Closed or InvalidEntry if that can't be."""
        self._check_open(slot)
        self._check_value(value)
        self._add_version(slot, value)

    def take_back(self, slot):
        """Take the slot back; raise NoSlot or Closed if that can't be."""
        self._check_open(slot)
        self._add_version(slot, None)

    def close(self, stamp):
        """Close up to the stamp; raise InvalidEntry if it is less than the closed stamp."""
        if self.closed_stamp is not None and stamp < self.closed_stamp:
            raise InvalidEntry("the stamp is less than the closed stamp")
        before = [slot for slot in self.slots if slot.stamp < stamp]
        self.closed_number = len(before)
        self.closed_stamp = stamp
        versions = sum([len(slot.versions) for slot in before])
        self._make(("close", self.meter[0], self.closed_number, stamp, versions))

    def check(self, low, high):
        """Make a "clock" letter; raise InvalidEntry if the offset is not from low to high."""
        if not low <= self.offset <= high:
            raise InvalidEntry("the bounds do not hold for the offset")
        self._make(("clock", self.meter[0], low, high))

    def log(self):
        """The log as it is now."""
        slots = [(slot.stamp, tuple(slot.versions)) for slot in self.slots]
        return self.meter[0], self.offset, tuple(slots)

    def due(self):
        """The due letters, a tuple in the order in which they were made."""
        return tuple(self.unacknowledged)

    def acknowledge(self, letter):
        """From now on the letter is not due any more."""
        if letter in self.unacknowledged:
            del self.unacknowledged[letter]

    def _check_value(self, value):
        low, high = self.meter[1:3]
        if value is None or not low <= value <= high:
            raise InvalidEntry("the value is not a value of the meter")

    def _check_open(self, slot):
        if not 1 <= slot <= len(self.slots):
            raise NoSlot("the log has no slot of this number")
        if slot <= self.closed_number:
            raise Closed("the slot is closed")

    def _add_version(self, slot, value):
        self.slots[slot - 1].versions.append(value)
        self._tell_last_version(slot)

    def _tell_last_version(self, slot):
        entry = self.slots[slot - 1]
        version = len(entry.versions) - 1
        self._make(("read", self.meter[0], slot, version, entry.stamp, entry.versions[-1]))

    def _make(self, letter):
        # A letter that is due already keeps its place.
        self.unacknowledged[letter] = True
