"""The greatest sum of worths that the logs may show, and the picks that show it.

A pick is a triple of a scene, a worth and a number of further slots of the tail: the log that has the offset
of the scene, and where the slots with a choice are worth as much as they can be.
"""


def options_of(place, worth):
    """What each slot of the place is worth at best: without a hidden version, and with one."""
    tops = [worth.top(window) for window in place.windows]
    if not place.row.is_run():
        value = place.row.value
        plain = 0 if value is None else worth.of(place.windows[0], value)
    else:
        plain = max(tops + [0] if place.away else tops)
    # A slot with a hidden version may also be taken back.
    return plain, max(tops + [0])


def amount_of(scene, worth):
    """The greatest sum of worths in this scene without further slots of the tail."""
    return sum([_amount_of_part(segment.hidden, places, worth) for segment, places in scene.parts])


def _amount_of_part(hidden, places, worth):
    total = 0
    gains = []
    for place in places:
        plain, changed = options_of(place, worth)
        total += plain * place.row.many()
        gains.append((changed - plain, place.row.many()))
    if hidden is None:
        return total + sum([gain * many for gain, many in gains])
    for gain, many in sorted(gains, reverse=True):
        total += gain * min(many, hidden)
        hidden -= min(many, hidden)
    return total


def _has_no_limit(scene, worth):
    """Whether further slots of the tail can add to the sum, as many as one likes."""
    return any([worth.top(window) > 0 for window in scene.more])


def greatest(scenes, worths):
    """The greatest sum of worths and the picks that show it; None for both if there is no greatest sum.

    The scenes and the worths are dicts by the names of the meters, and so are the picks.
    """
    total = 0
    picks = {}
    for name, worth in worths.items():
        if any([_has_no_limit(scene, worth) for scene in scenes[name]]):
            return None, None
        amounts = [amount_of(scene, worth) for scene in scenes[name]]
        total += max(amounts)
        picks[name] = best_pick(scenes[name], amounts, worth)
    return total, picks


def best_pick(scenes, amounts, worth):
    """The pick with the greatest of the amounts, which belong to the scenes of one meter."""
    return scenes[amounts.index(max(amounts))], worth, 0
