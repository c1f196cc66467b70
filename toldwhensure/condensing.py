"""The condensed form of bags: the letters that are needed for what is told."""

from toldwhensure.possible import known_by_name


def condensed(plan, letters):
    """The condensed form of the bag; raise NotPossible if the bag is not possible."""
    known = known_by_name(plan, letters)
    return tuple(sorted([letter for about in known.values() for letter in needed_letters(about)]))


def joined(plan, one, other):
    """The condensed form of the letters of both bags; raise NotPossible if they are not possible together."""
    return condensed(plan, list(one) + list(other))


def needed_letters(known):
    """The letters of the condensed form about the meter of which this is known, a list."""
    name = known.meter[0]
    letters = []
    if known.clocked:
        letters.append(("clock", name, known.least, known.greatest))
    for number, (ceiling, floor, versions) in known.closes.items():
        # No slot is limited by the ceiling of 0.
        stamps = [floor] if number == 0 or ceiling == floor else [ceiling, floor]
        letters.extend([("close", name, number, stamp, versions) for stamp in stamps])
    return letters + [
        ("read", name, row.first, row.version, row.least, row.value)
        for segment, row in known.rows if not row.is_run()
    ]
