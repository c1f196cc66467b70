"""Histories that agree with a bag, and those that show the ends of what is told."""

from toldwhensure.building import built_history
from toldwhensure.possible import known_by_name
from toldwhensure.telling import empty_picks, end_and_picks, scenes_in_window


def some_history(plan, letters):
    """A history that agrees with the bag; raise NotPossible if there is none."""
    return built_history(plan, known_by_name(plan, letters), {})


def witness(plan, letters, aggregate, meters, window, end):
    """A history that shows the end, or has no readings if it is "empty"; None if there is no such history."""
    known = known_by_name(plan, letters)
    scenes = scenes_in_window(plan, known, meters, window)
    if end == "empty":
        picks = empty_picks(plan, scenes, window)
    else:
        picks = end_and_picks(plan, scenes, aggregate, window, end)[1]
    return None if picks is None else built_history(plan, known, picks)
