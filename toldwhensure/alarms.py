"""Alarms: which are right, when they ring, and when that is sure."""

from toldwhensure.errors import InvalidAlarm
from toldwhensure.plainly import plain_value
from toldwhensure.plans import is_name, names_of
from toldwhensure.possible import known_by_name
from toldwhensure.ranks import may_rank_reach
from toldwhensure.telling import empty_picks, end_and_picks, scenes_in_window


# The messages name no numbers: Python refuses to write out very large integers.
def check_alarm(plan, alarm):
    """Raise InvalidAlarm unless the alarm is right."""
    name, aggregate, meters, relation, limit, first, last = alarm
    if not is_name(name):
        raise InvalidAlarm("the name is not one or more letters a to z")
    if not _is_aggregate(aggregate):
        raise InvalidAlarm("the numbers of the aggregate are not right")
    if not _is_set_of_meters(plan, meters):
        raise InvalidAlarm("the meters are not some of the plan in alphabetical order, each once")
    if relation not in ("over", "under"):
        raise InvalidAlarm("the relation is neither over nor under")
    if first > last:
        raise InvalidAlarm("the first window is after the last one")


def _is_aggregate(aggregate):
    kind, *numbers = aggregate
    if kind == "among":
        least, greatest = numbers
        return least <= greatest
    if kind == "rank":
        part, whole = numbers
        return 0 <= part <= whole and whole >= 1
    return True


def _is_set_of_meters(plan, meters):
    names = names_of(plan)
    if len(meters) == 0 or not all([name in names for name in meters]):
        return False
    return all([name < following for name, following in zip(meters, meters[1:])])


def rings_in(plan, history, alarm, window):
    """Whether the alarm rings in the history at this window, which it watches."""
    name, aggregate, meters, relation, limit, first, last = alarm
    value = plain_value(plan, history, aggregate, meters, window)
    if value is None:
        return False
    return value > limit if relation == "over" else value < limit


def alarm_state(plan, letters, alarm, window):
    """The state of the alarm at this window, which it watches; raise NotPossible if the bag is not possible."""
    scenes = scenes_in_window(plan, known_by_name(plan, letters), alarm[2], window)
    return _state_in(plan, scenes, alarm, window)


def ringing(plan, known, alarms):
    """The pairs of name and window of those that ring after what is known, a tuple in ascending order."""
    found = []
    for window, watching in _watching(alarms).items():
        # Alarms share the scenes of a window, which take the most time.
        names = {name: True for alarm in watching for name in alarm[2]}
        scenes = scenes_in_window(plan, known, list(names), window)
        for alarm in watching:
            own = {name: scenes[name] for name in alarm[2]}
            if _state_in(plan, own, alarm, window) == "rings":
                found.append((alarm[0], window))
    return tuple(sorted(found))


def _watching(alarms):
    """For each window that is watched the list of the alarms that watch it."""
    found = {}
    for alarm in alarms:
        for window in range(alarm[5], alarm[6] + 1):
            found.setdefault(window, []).append(alarm)
    return found


def _state_in(plan, scenes, alarm, window):
    """The state of the alarm at the window whose scenes these are, a dict by the names of its meters."""
    aggregate, relation, limit = alarm[1], alarm[3], alarm[4]
    if relation == "over":
        ring, silence = ("high", limit + 1), ("low", limit)
    else:
        ring, silence = ("low", limit - 1), ("high", limit)
    if not _may_reach(plan, scenes, aggregate, window, *ring):
        return "quiet"
    if _may_reach(plan, scenes, aggregate, window, *silence):
        return "open"
    # Without a reading a rank has no value, and the alarm does not ring.
    if aggregate[0] == "rank" and empty_picks(plan, scenes, window) is not None:
        return "open"
    return "rings"


def _may_reach(plan, scenes, aggregate, window, end, limit):
    """Whether the value can be at most the limit (the end is "low") or at least the limit ("high")."""
    if aggregate[0] == "rank":
        return may_rank_reach(plan, scenes, aggregate, window, end, limit)
    value = end_and_picks(plan, scenes, aggregate, window, end)[0]
    if value is None:
        return True
    return value <= limit if end == "low" else value >= limit
