"""What the letters about one meter tell of its log when they are put together."""

from toldwhensure.plans import meter_of


class Row:
    """A received slot, or a run of missing slots that share their least and their greatest stamp."""

    def __init__(self, first, last, least, greatest, versions):
        self.first = first
        self.last = last
        # None if the stamps of the run have no least one.
        self.least = least
        self.greatest = greatest
        # The values that "read" letters tell, by the index of their version; None for a run.
        self.versions = versions
        # The known version and the known value of a received slot.
        self.version = None if versions is None else max(versions)
        self.value = None if versions is None else versions[self.version]

    def is_run(self):
        """Whether the row is a run of missing slots."""
        return self.versions is None

    def many(self):
        """The number of its slots."""
        return self.last - self.first + 1


class Segment:
    """The slots between two told numbers of slots, or the tail, whose last slot is None."""

    def __init__(self, first, last, least, greatest):
        self.first = first
        self.last = last
        # The limits of the stamps; None if there is none.
        self.least = least
        self.greatest = greatest
        self.rows = []
        # The number of hidden versions; None if it has no limit.
        self.hidden = None


class Known:
    """What the letters about one meter, and its past if there is one, tell: offsets, and segments with the tail."""

    # The past (point [31] of the document) comes with letters that tell nothing of its slots.
    def __init__(self, plan, meter, letters, past=None):
        self.meter = meter
        self.least, self.greatest = _offsets(meter, letters)
        self.clocked = len(of_kind(letters, "clock")) > 0
        # For each told number of slots its ceiling, its floor and its versions.
        self.closes = _closes_in(letters)
        if past is not None:
            # The ceiling of a past's number limits nothing, since all slots before it are settled.
            self.closes[past[1]] = (past[2], past[2], past[3])
        self.segments = _segments(_slots_in(letters), self.closes, 0 if past is None else past[1])
        if past is not None:
            self.segments.insert(0, _settled_segment(plan, self.least, past))
        # All rows with their segments. Neither the least nor the greatest stamps fall from row to row.
        self.rows = [(segment, row) for segment in self.segments for row in segment.rows]
        # Only the first row may have no least stamp.
        self.leasts = [row.least for segment, row in self.rows if row.least is not None]
        self.greatests = [row.greatest for segment, row in self.rows]

    def further_least(self):
        """The least stamp of further slots of the tail; None if there is no limit."""
        tail = self.segments[-1]
        # The last row of a tail is its last received slot.
        return tail.least if len(tail.rows) == 0 else tail.rows[-1].greatest

    def rows_between(self, least, greatest):
        """The rows that have possible stamps from the least to the greatest one, in pairs with their segments."""
        limitless = len(self.rows) - len(self.leasts)
        first = many_below(self.greatests, least)
        return self.rows[first:limitless + many_below(self.leasts, greatest + 1)]


def many_below(numbers, limit):
    """How many of the numbers, which do not fall, are less than the limit."""
    first, last = 0, len(numbers)
    while first < last:
        middle = (first + last) // 2
        if numbers[middle] < limit:
            first = middle + 1
        else:
            last = middle
    return first


def known_about(plan, letters, name):
    """What the letters about the meter of this name tell."""
    return Known(plan, meter_of(plan, name), [letter for letter in letters if letter[1] == name])


def letters_by_name(plan, letters):
    """The letters about each meter, in their order, a dict by the names in the order of the plan."""
    found = {meter[0]: [] for meter in plan[1]}
    for letter in letters:
        found[letter[1]].append(letter)
    return found


def of_kind(letters, kind):
    """The letters of this kind, in their order."""
    return [letter for letter in letters if letter[0] == kind]


def _offsets(meter, letters):
    """The least and the greatest offset that is left; the least is above the greatest if none is."""
    error = meter[3]
    clocks = of_kind(letters, "clock")
    least = max([-error] + [letter[2] for letter in clocks])
    greatest = min([error] + [letter[3] for letter in clocks])
    return least, greatest


def _slots_in(letters):
    """For each received slot its stamp and its known versions, a dict of pairs."""
    slots = {}
    for letter in of_kind(letters, "read"):
        slot, version, stamp, value = letter[2:]
        if slot not in slots:
            slots[slot] = (stamp, {})
        slots[slot][1][version] = value
    return slots


def _closes_in(letters):
    """For each told number of slots its ceiling, its floor and its versions, a dict of triples."""
    closes = {}
    for letter in of_kind(letters, "close"):
        slots, stamp, versions = letter[2:]
        ceiling, floor = closes.get(slots, (stamp, stamp))[:2]
        closes[slots] = (min(ceiling, stamp), max(floor, stamp), versions)
    return closes


def _settled_segment(plan, offset, past):
    """The settled slots as a segment; its rows are those of the past, and slots that were taken back have none."""
    number, rows = past[1], past[4]
    segment = Segment(1, number, None, None)
    segment.hidden = 0
    first = 1
    for window, value, many in rows:
        # Nothing but its window is known of the stamp. This one is in the window for the least offset that is
        # left, and so for all of them: a window with settled slots is at least as long as they are apart.
        stamp = window * plan[0] - offset
        segment.rows.append(Row(first, first + many - 1, stamp, stamp, {0: value}))
        first += many
    return segment


def _segments(slots, closes, start):
    """The segments behind this number of slots, and then the tail, with their rows and their hidden versions."""
    numbers = sorted([number for number in closes if number > start])
    groups = _groups(sorted(slots), numbers)
    least, versions_before = closes[start][1:] if start in closes else (None, 0)
    first = start + 1
    segments = []
    for number, group in zip(numbers, groups):
        ceiling, floor, versions = closes[number]
        segment = Segment(first, number, least, ceiling - 1)
        segment.rows = _rows(segment, group, slots)
        segment.hidden = versions - versions_before - _versions_at_least(segment.rows)
        segments.append(segment)
        first, least, versions_before = number + 1, floor, versions
    tail = Segment(first, None, least, None)
    tail.rows = _rows(tail, groups[-1], slots)
    return segments + [tail]


def _groups(received, numbers):
    """The received slots of each segment and of the tail, as lists in ascending order."""
    groups = [[] for _ in range(len(numbers) + 1)]
    at = 0
    for slot in received:
        while at < len(numbers) and slot > numbers[at]:
            at += 1
        groups[at].append(slot)
    return groups


def _rows(segment, group, slots):
    """The rows of the segment, whose received slots are in the group; in the tail up to the last of these."""
    rows = []
    following, least = segment.first, segment.least
    for slot in group:
        stamp, versions = slots[slot]
        if following < slot:
            rows.append(Row(following, slot - 1, least, stamp, None))
        rows.append(Row(slot, slot, stamp, stamp, versions))
        following, least = slot + 1, stamp
    if segment.last is not None and following <= segment.last:
        rows.append(Row(following, segment.last, least, segment.greatest, None))
    return rows


def _versions_at_least(rows):
    """The number of versions that the slots of these rows surely have."""
    return sum([row.many() if row.is_run() else row.version + 1 for row in rows])
