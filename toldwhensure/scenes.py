"""What of a log may be in the windows that are watched, for one offset of its clock."""

from toldwhensure.plans import window_of


class Place:
    """Where the slots of a row may be."""

    def __init__(self, row, windows, away):
        self.row = row
        # The watched windows in which its slots may be, in ascending order.
        self.windows = windows
        # Whether its slots may also be in no watched window.
        self.away = away


class Scene:
    """What of a log may be in watched windows: the places of each segment and of the tail, for one offset."""

    def __init__(self, offset, places, more):
        self.offset = offset
        # A list of places for each segment in order, and then for the tail.
        self.places = places
        # The watched windows in which further slots of the tail may be.
        self.more = more


def scene_at(plan, known, offset, windows):
    """The scene of the log for this offset; the watched windows are a tuple in ascending order."""
    places = [_places_of(plan, segment.rows, offset, windows) for segment in known.segments]
    return Scene(offset, places, _windows_from(plan, known.further()[1], offset, windows))


def _places_of(plan, rows, offset, windows):
    """The places of those rows some slots of which may be in a watched window."""
    places = [_place_of(plan, row, offset, windows) for row in rows]
    return [place for place in places if len(place.windows) > 0]


def _windows_from(plan, least, offset, windows):
    """The watched windows that have a time from this stamp on; no limit if it is None."""
    if least is None:
        return windows
    first = window_of(plan, least + offset)
    return tuple([window for window in windows if window >= first])


def _place_of(plan, row, offset, windows):
    last = window_of(plan, row.greatest + offset)
    found = tuple([window for window in _windows_from(plan, row.least, offset, windows) if window <= last])
    # The slots may be in more windows than those that are watched.
    away = row.least is None or len(found) <= last - window_of(plan, row.least + offset)
    return Place(row, found, away)
