"""What is told of an aggregate after a possible bag, and when it is final."""

from toldwhensure.ends import greatest
from toldwhensure.plans import meter_of
from toldwhensure.possible import known_by_name
from toldwhensure.ranks import end_of_rank
from toldwhensure.scenes import scenes_of
from toldwhensure.worths import worth_of_aggregate


def told(plan, letters, aggregate, meters, window):
    """What is told after the bag; raise NotPossible if the bag is not possible."""
    return told_of_known(plan, known_by_name(plan, letters), aggregate, meters, window)


def told_of_known(plan, known, aggregate, meters, window):
    """What is told after the bag of which this is known, a dict by the names of the meters."""
    scenes = scenes_in_window(plan, known, meters, window)
    low = end_and_picks(plan, scenes, aggregate, window, "low")[0]
    high = end_and_picks(plan, scenes, aggregate, window, "high")[0]
    if aggregate[0] == "rank":
        return empty_picks(plan, scenes, window) is not None, low, high
    return low, high


def scenes_in_window(plan, known, meters, window):
    """The scenes of the meters for this window, a dict by their names."""
    return {name: scenes_of(plan, known[name], (window,)) for name in meters}


def end_and_picks(plan, scenes, aggregate, window, end):
    """An end, "low" or "high", and the picks that show it; None for both if there is no such end."""
    if aggregate[0] != "rank":
        return _end_of_sum(plan, scenes, aggregate, window, end)
    if _end_of_sum(plan, scenes, ("count",), window, "high")[0] == 0:
        return None, None
    return end_of_rank(plan, scenes, aggregate, window, end)


def empty_picks(plan, scenes, window):
    """Picks without readings; None if every history has some."""
    least, picks = _end_of_sum(plan, scenes, ("count",), window, "low")
    return picks if least == 0 else None


def _end_of_sum(plan, scenes, aggregate, window, end):
    factor = 1 if end == "high" else -1
    worths = {name: worth_of_aggregate(meter_of(plan, name), aggregate, window, factor) for name in scenes}
    total, picks = greatest(scenes, worths)
    return (None if total is None else factor * total), picks


def is_final(aggregate, answer):
    """Whether the answer, which is told of this aggregate, leaves one value only."""
    if aggregate[0] != "rank":
        low, high = answer
        return low is not None and low == high
    empty, low, high = answer
    return low is None or (not empty and low == high)
