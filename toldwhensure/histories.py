"""Histories, and which letters are true of them."""


def is_history(plan, history):
    """Whether the tuple of logs is a history of the plan."""
    meters = plan[1]
    if len(history) != len(meters):
        return False
    return all([_is_log(meter, log) for meter, log in zip(meters, history)])


def _is_log(meter, log):
    name, offset, slots = log
    if name != meter[0] or not -meter[3] <= offset <= meter[3]:
        return False
    stamps = [stamp for stamp, versions in slots]
    if not all([stamp <= following for stamp, following in zip(stamps, stamps[1:])]):
        return False
    return all([_are_versions(meter, versions) for stamp, versions in slots])


def _are_versions(meter, versions):
    low, high = meter[1:3]
    if len(versions) == 0 or versions[0] is None:
        return False
    return all([value is None or low <= value <= high for value in versions])


def is_true(letter, history):
    """Whether the valid letter is true of the history."""
    kind, name, *told = letter
    offset, slots = _log_of(history, name)
    if kind == "read":
        return _is_read_true(slots, *told)
    if kind == "close":
        return _is_close_true(slots, *told)
    low, high = told
    return low <= offset <= high


def _log_of(history, name):
    """The offset and the slots of the log of this name."""
    for owner, offset, slots in history:
        if owner == name:
            return offset, slots
    return None


def _is_read_true(slots, slot, version, stamp, value):
    if slot > len(slots):
        return False
    true_stamp, versions = slots[slot - 1]
    return stamp == true_stamp and version < len(versions) and versions[version] == value


def _is_close_true(slots, many, stamp, versions):
    if many > len(slots):
        return False
    before = slots[:many]
    return (
        all([slot[0] < stamp for slot in before])
        and all([slot[0] >= stamp for slot in slots[many:]])
        and sum([len(slot[1]) for slot in before]) == versions
    )


def agrees(history, letters):
    """Whether every letter of the bag is true of the history."""
    for letter in letters:
        if not is_true(letter, history):
            return False
    return True


def reads_of(history):
    """All "read" letters that are true of the history, in the order of logs, slots and versions."""
    return tuple([
        ("read", name, slot, version, stamp, value)
        for name, _, slots in history
        for slot, (stamp, versions) in enumerate(slots, start=1)
        for version, value in enumerate(versions)
    ])
