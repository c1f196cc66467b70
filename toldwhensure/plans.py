"""Plans, their meters and their windows."""

from toldwhensure.errors import InvalidPlan

LETTERS = "abcdefghijklmnopqrstuvwxyz"


def is_name(text):
    """Whether the string is one or more letters a to z."""
    return text != "" and all([letter in LETTERS for letter in text])


def names_of(plan):
    """The names of the meters, a tuple in the order of the plan."""
    return tuple([meter[0] for meter in plan[1]])


# The messages name no numbers: Python refuses to write out very large integers.
def check_plan(plan):
    """Raise InvalidPlan unless the plan is right."""
    length, meters = plan
    if length < 1:
        raise InvalidPlan("the length of the windows is less than 1")
    if len(meters) == 0:
        raise InvalidPlan("the plan has no meters")
    for meter in meters:
        _check_meter(meter)
    names = names_of(plan)
    for name, following in zip(names, names[1:]):
        if name >= following:
            raise InvalidPlan("the names are not in alphabetical order, each once")


def _check_meter(meter):
    name, low, high, error = meter
    if not is_name(name):
        raise InvalidPlan("a name is not one or more letters a to z")
    if low > high:
        raise InvalidPlan("the least value of a meter is above its greatest")
    if error < 0:
        raise InvalidPlan("the error of a meter is negative")


def meter_of(plan, name):
    """The meter of this name, which the plan has."""
    for meter in plan[1]:
        if meter[0] == name:
            return meter
    return None


def window_of(plan, time):
    """The number of the window that has the time."""
    return time // plan[0]
