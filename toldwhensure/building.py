"""Histories that show an end: logs that are built from what is known and from what was picked."""

from toldwhensure.ends import options_of
from toldwhensure.plans import window_of
from toldwhensure.scenes import scene_at


class Entry:
    """A slot of a log that is built."""

    def __init__(self, stamp, versions, gain, target):
        self.stamp = stamp
        self.versions = versions
        # What a hidden version with the target as its value adds to the sum of worths.
        self.gain = gain
        self.target = target


def built_history(plan, known, picks):
    """A history with the picked logs, and any logs for the meters of which none is picked."""
    return tuple([_built_log(plan, known[meter[0]], picks) for meter in plan[1]])


def _built_log(plan, known, picks):
    name = known.meter[0]
    if name in picks:
        scene, worth, further = picks[name]
    else:
        # Where no window is watched no worth is asked for.
        scene, worth, further = scene_at(plan, known, known.least, ()), None, 0
    places = {place.row.first: place for segment, found in scene.parts for place in found}
    slots = []
    for segment in known.segments:
        entries = []
        for row in segment.rows:
            entries.extend(_entries_of(plan, known, scene.offset, worth, row, places.get(row.first)))
        _spend_hidden_versions(segment.hidden, entries)
        slots.extend([(entry.stamp, tuple(entry.versions)) for entry in entries])
    slots.extend([_further_slot(plan, known, scene, worth) for _ in range(further)])
    return name, scene.offset, tuple(slots)


def _entries_of(plan, known, offset, worth, row, place):
    """The entries of a row whose slots are where they are worth most; no place means no watched window."""
    low = known.meter[1]
    window = None if place is None else _best_window(place, worth)
    if row.is_run():
        versions = [low if window is None else worth.best_value(window)]
        stamp = _stamp_of_run(plan, offset, row, place, window)
    else:
        # Nothing is known of the versions in between, which do not count.
        versions = [row.versions.get(version, low) for version in range(row.version + 1)]
        stamp = row.least
    if window is None:
        return [Entry(stamp, list(versions), 0, versions[-1]) for _ in range(row.many())]
    plain, changed = options_of(place, worth)
    target = worth.best_value(window) if worth.top(window) >= 0 else None
    return [Entry(stamp, list(versions), changed - plain, target) for _ in range(row.many())]


def _best_window(place, worth):
    """The watched window where the slots of the place are worth most; None if they are worth more away."""
    tops = [worth.top(window) for window in place.windows]
    if place.away and max(tops) < 0:
        return None
    return place.windows[tops.index(max(tops))]


def _stamp_of_run(plan, offset, row, place, window):
    """A possible stamp of the run that is in this window; in no watched window if it is None."""
    if window is None:
        window = window_of(plan, row.greatest + offset)
        while place is not None and window in place.windows:
            window -= 1
    return min(row.greatest, _end_of(plan, window) - offset)


def _end_of(plan, window):
    """The last time of the window."""
    return (window + 1) * plan[0] - 1


def _spend_hidden_versions(hidden, entries):
    """Add as many hidden versions as there are, the best ones; in the tail, where it is None, all that help."""
    changing = [entry for entry in entries if entry.versions[-1] != entry.target]
    # One that adds nothing may still make a reading of a void, and a rank may need a reading.
    changing = sorted(changing, key=lambda entry: -entry.gain)[:hidden]
    for entry in changing:
        entry.versions.append(entry.target)
    if hidden is not None:
        versions = entries[-1].versions
        repeated = versions[-1]
        versions.extend([repeated] * (hidden - len(changing)))


def _further_slot(plan, known, scene, worth):
    """A further slot of the tail that is worth as much as it can be."""
    # Only ranks need further slots, and they watch one window.
    window = scene.more[0]
    stamp = window * plan[0] - scene.offset
    least = known.further_least()
    if least is not None:
        stamp = max(stamp, least)
    return stamp, (worth.best_value(window),)
