"""What of a log may be in the windows that are watched, for one offset of its clock."""

from toldwhensure.plans import window_of


class Place:
    """Where the slots of a row may be."""

    def __init__(self, row, windows, away):
        self.row = row
        # The watched windows in which its slots may be, in ascending order.
        self.windows = windows
        # Whether its slots may also be in no watched window.
        self.away = away


class Scene:
    """Where the slots of a log may be, for one offset and the windows that are watched."""

    def __init__(self, offset, parts, more):
        self.offset = offset
        # Pairs of a segment, or the tail, and the list of those places of its rows that touch watched windows.
        self.parts = parts
        # The watched windows in which further slots of the tail may be.
        self.more = more


def scene_at(plan, known, offset, windows):
    """The scene of the log for this offset; the watched windows are a tuple in ascending order."""
    parts = [(segment, _places_of(plan, segment.rows, offset, windows)) for segment in known.segments]
    return Scene(offset, parts, _windows_from(plan, known.further_least(), offset, windows))


def scenes_of(plan, known, windows):
    """The scenes for the offsets that are left, without parts that have no place, and no scene twice.

    At least one window is watched.
    """
    near = [(segment, _rows_near(plan, known, segment, windows)) for segment in known.segments]
    near = [(segment, rows) for segment, rows in near if len(rows) > 0]
    further_least = known.further_least()
    found = {}
    for offset in range(known.least, known.greatest + 1):
        parts = [(segment, _places_of(plan, rows, offset, windows)) for segment, rows in near]
        parts = [(segment, places) for segment, places in parts if len(places) > 0]
        scene = Scene(offset, parts, _windows_from(plan, further_least, offset, windows))
        found.setdefault(_key_of(scene), scene)
    return list(found.values())


def _rows_near(plan, known, segment, windows):
    """Those rows of the segment that touch the span of the watched windows for some offset that is left."""
    return [
        row for row in segment.rows
        if window_of(plan, row.greatest + known.greatest) >= windows[0]
        and (row.least is None or window_of(plan, row.least + known.least) <= windows[-1])
    ]


def _key_of(scene):
    """What the scenes of one log have in common exactly if they differ in nothing but their offset."""
    marks = [(place.row.first, place.windows, place.away) for segment, places in scene.parts for place in places]
    return tuple(marks), scene.more


def _places_of(plan, rows, offset, windows):
    """The places of those rows some slots of which may be in a watched window."""
    places = [_place_of(plan, row, offset, windows) for row in rows]
    return [place for place in places if len(place.windows) > 0]


def _place_of(plan, row, offset, windows):
    last = window_of(plan, row.greatest + offset)
    found = tuple([window for window in _windows_from(plan, row.least, offset, windows) if window <= last])
    # The slots may be in more windows than those that are watched.
    away = row.least is None or len(found) <= last - window_of(plan, row.least + offset)
    return Place(row, found, away)


def _windows_from(plan, least, offset, windows):
    """The watched windows that have a time from this stamp on; no limit if it is None."""
    if least is None:
        return windows
    first = window_of(plan, least + offset)
    return tuple([window for window in windows if window >= first])
