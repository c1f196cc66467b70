"""How a possible bag limits the log of one meter: offsets, segments, runs, and what is inside a window."""

from toldwhensure.known import known_about
from toldwhensure.scenes import scene_at


def offsets_left(plan, letters, name):
    """The least and the greatest offset that is left."""
    known = known_about(plan, letters, name)
    return known.least, known.greatest


def segments_of(plan, letters, name):
    """The segments in order and then the tail, triples of the first slot, the last slot, the hidden versions."""
    known = known_about(plan, letters, name)
    return tuple([(segment.first, segment.last, segment.hidden) for segment in known.segments])


def runs_of(plan, letters, name):
    """The runs in order, tuples of the first slot, the last slot, the least stamp, the greatest stamp."""
    known = known_about(plan, letters, name)
    return tuple([
        (row.first, row.last, row.least, row.greatest)
        for segment in known.segments
        for row in segment.rows if row.is_run()
    ])


def inside(plan, letters, name, offset, window):
    """The parts of the segments and of the tail that are inside, and whether further slots may be inside."""
    known = known_about(plan, letters, name)
    scene = scene_at(plan, known, offset, (window,))
    parts = [_counted(places) + (segment.hidden,) for segment, places in scene.parts]
    return tuple(parts), len(scene.more) > 0


def _counted(places):
    """The known values, and the numbers of voids, of sure and of other missing slots in these places."""
    received = [place.row for place in places if not place.row.is_run()]
    values = [row.value for row in received if row.value is not None]
    runs = [place for place in places if place.row.is_run()]
    sure = sum([place.row.many() for place in runs if not place.away])
    maybe = sum([place.row.many() for place in runs if place.away])
    return tuple(sorted(values)), len(received) - len(values), sure, maybe
