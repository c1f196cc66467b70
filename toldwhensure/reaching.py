"""How far everything that is told is final."""

from toldwhensure.possible import known_by_name
from toldwhensure.telling import is_final, told_of_known


def final_reach(plan, letters, aggregate, meters, first, last):
    """The last window, from the first one on, up to which all is final; the one before the first if that is not.

    Raise NotPossible if the bag is not possible.
    """
    known = known_by_name(plan, letters)
    for window in range(first, last + 1):
        if not is_final(aggregate, told_of_known(plan, known, aggregate, meters, window)):
            return window - 1
    return last
