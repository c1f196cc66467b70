"""What the letters about one meter tell of its log when they are put together."""


class Row:
    """A received slot, or a run of missing slots that share their least and their greatest stamp."""

    def __init__(self, first, last, least, greatest, versions):
        self.first = first
        self.last = last
        # None if the stamps of the run have no least one.
        self.least = least
        self.greatest = greatest
        # The values that "read" letters tell, by the index of their version; None for a run.
        self.versions = versions
        # The known version and the known value of a received slot.
        self.version = None if versions is None else max(versions)
        self.value = None if versions is None else versions[self.version]

    def is_run(self):
        """Whether the row is a run of missing slots."""
        return self.versions is None

    def many(self):
        """The number of its slots."""
        return self.last - self.first + 1


class Segment:
    """The slots between two told numbers of slots, or the tail, whose last slot is None."""

    def __init__(self, first, last, least, greatest):
        self.first = first
        self.last = last
        # The limits of the stamps; None if there is none.
        self.least = least
        self.greatest = greatest
        self.rows = []
        # The number of hidden versions; None if it has no limit.
        self.hidden = None


class Known:
    """What the letters about one meter tell: the offsets that are left, and the segments with the tail."""

    def __init__(self, meter, letters):
        self.meter = meter
        self.least, self.greatest = _offsets(meter, letters)
        self.segments = _segments(_slots_in(letters), _closes_in(letters))

    def further_least(self):
        """The least stamp of further slots of the tail; None if there is no limit."""
        tail = self.segments[-1]
        # The last row of a tail is its last received slot.
        return tail.least if len(tail.rows) == 0 else tail.rows[-1].greatest


def letters_about(letters, name):
    """The letters about the meter of this name, in their order."""
    return [letter for letter in letters if letter[1] == name]


def of_kind(letters, kind):
    """The letters of this kind, in their order."""
    return [letter for letter in letters if letter[0] == kind]


def _offsets(meter, letters):
    """The least and the greatest offset that is left; the least is above the greatest if none is."""
    error = meter[3]
    clocks = of_kind(letters, "clock")
    least = max([-error] + [letter[2] for letter in clocks])
    greatest = min([error] + [letter[3] for letter in clocks])
    return least, greatest


def _slots_in(letters):
    """For each received slot its stamp and its known versions, a dict of pairs."""
    slots = {}
    for letter in of_kind(letters, "read"):
        slot, version, stamp, value = letter[2:]
        if slot not in slots:
            slots[slot] = (stamp, {})
        slots[slot][1][version] = value
    return slots


def _closes_in(letters):
    """For each told number of slots its ceiling, its floor and its versions, a dict of triples."""
    closes = {}
    for letter in of_kind(letters, "close"):
        slots, stamp, versions = letter[2:]
        ceiling, floor = closes.get(slots, (stamp, stamp))[:2]
        closes[slots] = (min(ceiling, stamp), max(floor, stamp), versions)
    return closes


def _segments(slots, closes):
    """The segments in their order, and then the tail, with their rows and their hidden versions."""
    numbers = sorted([number for number in closes if number > 0])
    groups = _groups(sorted(slots), numbers)
    least = closes[0][1] if 0 in closes else None
    first, versions_before = 1, 0
    segments = []
    for number, group in zip(numbers, groups):
        ceiling, floor, versions = closes[number]
        segment = Segment(first, number, least, ceiling - 1)
        segment.rows = _rows(segment, group, slots)
        segment.hidden = versions - versions_before - _versions_at_least(segment.rows)
        segments.append(segment)
        first, least, versions_before = number + 1, floor, versions
    tail = Segment(first, None, least, None)
    tail.rows = _rows(tail, groups[-1], slots)
    return segments + [tail]


def _groups(received, numbers):
    """The received slots of each segment and of the tail, as lists in ascending order."""
    groups = [[] for _ in range(len(numbers) + 1)]
    at = 0
    for slot in received:
        while at < len(numbers) and slot > numbers[at]:
            at += 1
        groups[at].append(slot)
    return groups


def _rows(segment, group, slots):
    """The rows of the segment, whose received slots are in the group; in the tail up to the last of these."""
    rows = []
    following, least = segment.first, segment.least
    for slot in group:
        stamp, versions = slots[slot]
        if following < slot:
            rows.append(Row(following, slot - 1, least, stamp, None))
        rows.append(Row(slot, slot, stamp, stamp, versions))
        following, least = slot + 1, stamp
    if segment.last is not None and following <= segment.last:
        rows.append(Row(following, segment.last, least, segment.greatest, None))
    return rows


def _versions_at_least(rows):
    """The number of versions that the slots of these rows surely have."""
    return sum([row.many() if row.is_run() else row.version + 1 for row in rows])
