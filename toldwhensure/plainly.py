"""What is plainly so in one history: readings, values of aggregates, balances."""

from toldwhensure.plans import window_of


def readings(plan, history, meters, window):
    """The values that count for these meters and this window, a tuple in ascending order."""
    return tuple(sorted([
        versions[-1]
        for name, offset, slots in history if name in meters
        for stamp, versions in slots
        if versions[-1] is not None and window_of(plan, stamp + offset) == window
    ]))


def value_of(aggregate, values):
    """The value of the aggregate for readings in ascending order."""
    kind, *numbers = aggregate
    if kind == "count":
        return len(values)
    if kind == "among":
        low, high = numbers
        return len([value for value in values if low <= value <= high])
    if kind == "sum":
        return sum(values)
    if len(values) == 0:
        return None
    part, whole = numbers
    return values[(len(values) - 1) * part // whole]


def plain_value(plan, history, aggregate, meters, window):
    """The value of the aggregate in the history."""
    return value_of(aggregate, readings(plan, history, meters, window))


def plain_balance(plan, history, balance):
    """The value of the balance in the history."""
    return sum([
        factor * plain_value(plan, history, aggregate, meters, window)
        for factor, aggregate, meters, window in balance
    ])
