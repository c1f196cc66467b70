"""What a reading is worth for an end of what is told: the greatest sum of worths is that end."""


class Worth:
    """The worth of each value of a meter in each of the windows that are watched; elsewhere it is 0."""

    # A value with the greatest worth is among the values that are passed.
    def __init__(self, windows, values, rule):
        # A function that tells the worth of a value in a watched window.
        self.rule = rule
        # The greatest worth in each window, with a value that has it.
        self.tops = {window: max([(rule(window, value), value) for value in values]) for window in windows}

    def of(self, window, value):
        """The worth of the value in this window."""
        rule = self.rule
        return rule(window, value)

    def top(self, window):
        """The greatest worth in this window."""
        return self.tops[window][0]

    def best_value(self, window):
        """A value with the greatest worth in this window."""
        return self.tops[window][1]


def worth_by_rates(meter, rates):
    """The worth of readings that count with a fixed amount and a multiple of their value.

    The rates are a dict: for each watched window a pair of this amount and of this factor.
    """
    return Worth(list(rates), meter[1:3], lambda window, value: rates[window][0] + rates[window][1] * value)


def worth_of_aggregate(meter, aggregate, window, factor):
    """The worth by which the readings in the window add up to the factor times the count, "among" or sum."""
    if aggregate[0] == "count":
        return worth_by_rates(meter, {window: (factor, 0)})
    if aggregate[0] == "sum":
        return worth_by_rates(meter, {window: (0, factor)})
    least, greatest = aggregate[1:]
    low, high = meter[1:3]
    # The value of the meter that is nearest to the range is in it if any is.
    values = (low, high, min(max(least, low), high))
    return Worth((window,), values, lambda watched, value: factor if least <= value <= greatest else 0)


def worth_up_to(meter, window, limit, good, bad):
    """The worth by which a reading is good if it is at most the limit."""
    return Worth((window,), meter[1:3], lambda watched, value: good if value <= limit else bad)


def worth_from(meter, window, limit, good, bad):
    """The worth by which a reading is good if it is at least the limit."""
    return Worth((window,), meter[1:3], lambda watched, value: good if value >= limit else bad)
