"""The ends of what is told of a rank.

The reading at index (n - 1) * p // q of n readings is at most a limit exactly if, counting q - p for each
reading up to the limit and -p for each one above it, the sum is at least 1 - p, and there is a reading. It is
at least a limit exactly if, counting p for each reading from the limit on and p - q for each one below it, the
sum is at least p, and there is a reading. In both cases a reading on the right side, a good one, is among them.
"""

from toldwhensure.ends import amount_of, best_pick
from toldwhensure.plans import meter_of
from toldwhensure.worths import worth_from, worth_up_to


def end_of_rank(plan, scenes, aggregate, window, end):
    """The end of the rank among the histories that have readings, some have, and the picks that show it."""
    limits = _limits(plan, scenes, end)
    first, last = 0, len(limits) - 1
    while first < last:
        middle = (first + last) // 2
        if _picks_within(plan, scenes, aggregate, window, end, limits[middle]) is None:
            first = middle + 1
        else:
            last = middle
    return limits[first], _picks_within(plan, scenes, aggregate, window, end, limits[first])


def may_rank_reach(plan, scenes, aggregate, window, end, limit):
    """Whether the rank of some readings can be at most the limit (the end is "low") or at least it ("high")."""
    return _picks_within(plan, scenes, aggregate, window, end, limit) is not None


def _limits(plan, scenes, end):
    """The values at which the end may be, from that end on: what is known, and the ends of the meters' values."""
    at = 1 if end == "low" else 2
    values = {meter_of(plan, name)[at]: True for name in scenes}
    for found in scenes.values():
        for scene in found:
            values.update({value: True for value in _known_values(scene)})
    limits = sorted(values)
    return limits if end == "low" else limits[::-1]


def _known_values(scene):
    values = [place.row.value for segment, places in scene.parts for place in places]
    return [value for value in values if value is not None]


def _picks_within(plan, scenes, aggregate, window, end, limit):
    """Picks whose rank is at most the limit ("low") or at least the limit ("high"); None if there are none."""
    part, whole = aggregate[1:]
    worths = {}
    for name in scenes:
        if end == "low":
            worths[name] = worth_up_to(meter_of(plan, name), window, limit, whole - part, -part)
        else:
            worths[name] = worth_from(meter_of(plan, name), window, limit, part, part - whole)
    if end == "low":
        return _picks_with_a_good_one(scenes, worths, whole - part, 1 - part)
    return _picks_with_a_good_one(scenes, worths, part, part)


def _picks_with_a_good_one(scenes, worths, good, least):
    """Picks with a good reading and with at least this sum; None if there are none."""
    amounts, picks = {}, {}
    for name, worth in worths.items():
        amounts[name] = [amount_of(scene, worth) for scene in scenes[name]]
        picks[name] = best_pick(scenes[name], amounts[name], worth)
    total = sum([max(found) for found in amounts.values()])
    # One meter has the good reading, for which it may need another offset; the others do their best.
    for name, worth in worths.items():
        others = total - max(amounts[name])
        for scene, amount in zip(scenes[name], amounts[name]):
            further = _further_good_ones(scene, worth, good, least - others - amount)
            enough = others + amount + further * good >= least
            if enough and (further > 0 or _has_a_good_one(scene, worth, good)):
                return {**picks, name: (scene, worth, further)}
    return None


def _further_good_ones(scene, worth, good, lacking):
    """A number of further slots of the tail that are good readings and add what is lacking, if they can."""
    if not any([worth.top(window) == good for window in scene.more]):
        return 0
    if good == 0:
        return 1
    return max(1, -(-lacking // good))


def _has_a_good_one(scene, worth, good):
    """Whether there is a good reading if the slots of the scene are worth as much as they can be."""
    return any([
        _may_be_good(segment, place, worth, good) for segment, places in scene.parts for place in places
    ])


def _may_be_good(segment, place, worth, good):
    window = place.windows[0]
    if not place.row.is_run():
        value = place.row.value
        if value is not None and worth.of(window, value) == good:
            return True
        if segment.hidden == 0:
            return False
    return worth.top(window) == good
