"""What is told of balances, and the histories that show it."""

from toldwhensure.building import built_history
from toldwhensure.ends import greatest
from toldwhensure.plans import meter_of
from toldwhensure.possible import known_by_name
from toldwhensure.scenes import scenes_of
from toldwhensure.worths import worth_by_rates


def told_balance(plan, letters, balance):
    """What is told of the balance after the bag; raise NotPossible if the bag is not possible."""
    scenes = _scenes(plan, known_by_name(plan, letters), balance)
    return _end_and_picks(plan, scenes, balance, "low")[0], _end_and_picks(plan, scenes, balance, "high")[0]


def balance_witness(plan, letters, balance, end):
    """A history that shows the end, "low" or "high"; None if there is no such end."""
    known = known_by_name(plan, letters)
    picks = _end_and_picks(plan, _scenes(plan, known, balance), balance, end)[1]
    return None if picks is None else built_history(plan, known, picks)


def _scenes(plan, known, balance):
    """The scenes of each meter for the windows in which the balance counts it, a dict by the names."""
    return {
        name: scenes_of(plan, known[name], tuple(sorted(by_window)))
        for name, by_window in _rates(balance, 1).items()
    }


def _end_and_picks(plan, scenes, balance, end):
    """The end and the picks that show it; None for both if there is no such end."""
    factor = 1 if end == "high" else -1
    rates = _rates(balance, factor)
    worths = {name: worth_by_rates(meter_of(plan, name), rates[name]) for name in rates}
    total, picks = greatest(scenes, worths)
    return (None if total is None else factor * total), picks


def _rates(balance, factor):
    """For each meter and each window of it in the balance: what a reading adds, and what its value is taken by.

    Both are multiplied by the factor.
    """
    rates = {}
    for times, aggregate, meters, window in balance:
        for name in meters:
            found = rates.setdefault(name, {})
            fixed, by_value = found.get(window, (0, 0))
            if aggregate[0] == "count":
                found[window] = (fixed + factor * times, by_value)
            else:
                found[window] = (fixed, by_value + factor * times)
    return rates
