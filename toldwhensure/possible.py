"""Which bags are possible, and what possible bags tell of each meter."""

from toldwhensure.errors import NotPossible
from toldwhensure.known import Known, letters_by_name, of_kind


def is_possible(plan, letters):
    """Whether some history of the plan agrees with the bag."""
    return None not in list(_found(plan, letters, ()).values())


def known_by_name(plan, letters, pasts=()):
    """What the bag, behind these pasts, tells of each meter, a dict by the names in the order of the plan.

    Raise NotPossible if the bag is not possible.
    """
    found = _found(plan, letters, pasts)
    if None in list(found.values()):
        raise NotPossible("no history of the plan agrees with the bag")
    return found


def _found(plan, letters, pasts):
    """What is known of each meter, a dict by the names; None for a meter whose letters can't all be true."""
    by_name = letters_by_name(plan, letters)
    past_of = {past[0]: past for past in pasts}
    return {meter[0]: _known_of(plan, meter, by_name[meter[0]], past_of.get(meter[0])) for meter in plan[1]}


def _known_of(plan, meter, letters, past):
    """What is known of the meter; None if the letters can't all be true."""
    reads, closes = of_kind(letters, "read"), of_kind(letters, "close")
    if not (_values_fit(meter, reads) and _reads_agree(reads) and _closes_agree(closes)):
        return None
    known = Known(plan, meter, letters, past)
    if known.least > known.greatest or not all([_is_segment_possible(segment) for segment in known.segments]):
        return None
    return known


def _values_fit(meter, reads):
    low, high = meter[1:3]
    return all([
        version > 0 if value is None else low <= value <= high
        for version, value in [(letter[3], letter[5]) for letter in reads]
    ])


def _reads_agree(reads):
    """Whether a slot never has two stamps, and a version never two values."""
    stamps, values = {}, {}
    for letter in reads:
        slot, version, stamp, value = letter[2:]
        if stamps.setdefault(slot, stamp) != stamp or values.setdefault((slot, version), value) != value:
            return False
    return True


def _closes_agree(closes):
    """Whether a number of slots never has two numbers of versions, and 0 slots no version."""
    many = {0: 0}
    for letter in closes:
        slots, _, versions = letter[2:]
        if many.setdefault(slots, versions) != versions:
            return False
    return True


def _is_segment_possible(segment):
    """Whether its versions suffice, its limits leave a stamp, and its received stamps rise within them."""
    stamps = [row.least for row in segment.rows if not row.is_run()]
    if segment.least is not None:
        stamps = [segment.least] + stamps
    if segment.greatest is not None:
        stamps = stamps + [segment.greatest]
    rises = all([stamp <= following for stamp, following in zip(stamps, stamps[1:])])
    return rises and (segment.hidden is None or segment.hidden >= 0)
