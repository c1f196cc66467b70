"""What of a log may be in the windows that are watched, for one offset of its clock."""

from toldwhensure.plans import window_of


class Place:
    """Where the slots of a row may be."""

    def __init__(self, row, windows, away):
        self.row = row
        # The watched windows in which its slots may be, in ascending order.
        self.windows = windows
        # Whether its slots may also be in no watched window.
        self.away = away


class Scene:
    """Where the slots of a log may be, for one offset and the windows that are watched."""

    def __init__(self, offset, parts, more):
        self.offset = offset
        # Pairs of a segment, or the tail, and the list of those places of its rows that touch watched windows.
        self.parts = parts
        # The watched windows in which further slots of the tail may be.
        self.more = more


def scene_at(plan, known, offset, windows):
    """The scene of the log for this offset; the watched windows are a tuple in ascending order."""
    parts = [(segment, _places_of(plan, segment.rows, offset, windows)) for segment in known.segments]
    return Scene(offset, parts, _windows_from(plan, known.further_least(), offset, windows))


def scenes_of(plan, known, windows):
    """The scenes for the offsets that matter, without parts that have no place, and no scene twice.

    At least one window is watched.
    """
    further_least = known.further_least()
    found = {}
    for offset in _offsets_that_matter(plan, known, windows):
        parts = _parts_at(plan, known, offset, windows)
        scene = Scene(offset, parts, _windows_from(plan, further_least, offset, windows))
        found.setdefault(_key_of(scene), scene)
    return list(found.values())


def _offsets_that_matter(plan, known, windows):
    """The least offset that is left, and all for which a greatest stamp comes to an edge of a watched window.

    From one of these to the next the least stamps may leave a window behind, but no stamp comes to a new one: all
    that the logs may show for the offsets in between they may show for the one before.
    """
    near = known.rows_between(windows[0] * plan[0] - known.greatest, (windows[-1] + 1) * plan[0] - known.least)
    stamps = {row.greatest: True for segment, row in near}
    edges = {edge: True for window in windows for edge in (window * plan[0], (window + 1) * plan[0])}
    offsets = {edge - stamp: True for stamp in stamps for edge in edges}
    return [known.least] + sorted([offset for offset in offsets if known.least < offset <= known.greatest])


def _parts_at(plan, known, offset, windows):
    """The segments with places, and the lists of these."""
    parts = []
    for segment, row in known.rows_between(windows[0] * plan[0] - offset, (windows[-1] + 1) * plan[0] - 1 - offset):
        place = _place_of(plan, row, offset, windows)
        if len(place.windows) > 0:
            if len(parts) == 0 or parts[-1][0] != segment:
                parts.append((segment, []))
            parts[-1][1].append(place)
    return parts


def _key_of(scene):
    """What the scenes of one log have in common exactly if they differ in nothing but their offset."""
    marks = [(place.row.first, place.windows, place.away) for segment, places in scene.parts for place in places]
    return tuple(marks), scene.more


def _places_of(plan, rows, offset, windows):
    """The places of those rows some slots of which may be in a watched window."""
    places = [_place_of(plan, row, offset, windows) for row in rows]
    return [place for place in places if len(place.windows) > 0]


def _place_of(plan, row, offset, windows):
    last = window_of(plan, row.greatest + offset)
    found = tuple([window for window in _windows_from(plan, row.least, offset, windows) if window <= last])
    # The slots may be in more windows than those that are watched.
    away = row.least is None or len(found) <= last - window_of(plan, row.least + offset)
    return Place(row, found, away)


def _windows_from(plan, least, offset, windows):
    """The watched windows that have a time from this stamp on; no limit if it is None."""
    if least is None:
        return windows
    first = window_of(plan, least + offset)
    return tuple([window for window in windows if window >= first])
