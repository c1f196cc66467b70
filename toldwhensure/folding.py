"""Folding: what is settled becomes a past, and beside the pasts only those letters stay that tell more."""

from toldwhensure.condensing import needed_letters
from toldwhensure.known import known_about
from toldwhensure.plans import window_of
from toldwhensure.possible import known_by_name
from toldwhensure.telling import told_of_known


def settled_slots(plan, letters, name):
    """The settled number of the meter after a possible bag."""
    return _settled_number(_settled_segments(plan, known_about(plan, letters, name)))


def folded(plan, letters):
    """The folded form of the bag; raise NotPossible if the bag is not possible."""
    return _form_of(plan, known_by_name(plan, letters))


def join_folded(plan, one, other):
    """The folded form of all letters together that are behind the two forms."""
    letters = list(one[1]) + list(other[1])
    pasts = _joined_pasts(list(one[0]) + list(other[0]), letters)
    numbers = {name: past[1] for name, past in pasts.items()}
    # What these letters tell of settled slots is in the past already.
    left = [letter for letter in letters if not _is_settled_letter(letter, numbers.get(letter[1], 0))]
    return _form_of(plan, known_by_name(plan, left, list(pasts.values())))


def told_folded(plan, form, aggregate, meters, window):
    """What is told after the bag with this folded form."""
    return told_of_known(plan, known_of_form(plan, form), aggregate, meters, window)


def known_of_form(plan, form):
    """What the folded form tells of each meter, a dict by the names."""
    pasts, letters = form
    return known_by_name(plan, letters, pasts)


def _settled_segments(plan, known):
    """The segments up to the settled number; if there is a past, its slots are the first of them."""
    found = []
    for segment in known.segments[:-1]:
        if segment.hidden > 0 or not all([_is_settled_row(plan, known, row) for row in segment.rows]):
            return found
        found.append(segment)
    return found


def _is_settled_row(plan, known, row):
    """Whether its slot is received, and is in the same window for all offsets that are left."""
    if row.is_run():
        return False
    return window_of(plan, row.least + known.least) == window_of(plan, row.least + known.greatest)


def _settled_number(segments):
    return 0 if len(segments) == 0 else segments[-1].last


def _is_settled_letter(letter, number):
    """Whether it tells nothing that is not known where so many slots are settled; with 0 no slot is."""
    return number > 0 and letter[0] != "clock" and letter[2] <= number


def _form_of(plan, known):
    """The folded form of what is known, a dict by the names in the order of the plan."""
    pasts, letters = [], []
    for name, about in known.items():
        segments = _settled_segments(plan, about)
        number = _settled_number(segments)
        if number > 0:
            floor, versions = about.closes[number][1:]
            pasts.append((name, number, floor, versions, _settled_readings(plan, about, segments)))
        # The rows of a past are no slots, and what stands for them as letters goes with the settled ones.
        letters.extend([letter for letter in needed_letters(about) if not _is_settled_letter(letter, number)])
    return tuple(pasts), tuple(sorted(letters))


def _settled_readings(plan, known, segments):
    """The triples of window, value and count of the readings in these segments, in ascending order."""
    counts = {}
    for segment in segments:
        for row in segment.rows:
            if row.value is not None:
                key = (window_of(plan, row.least + known.least), row.value)
                counts[key] = counts.get(key, 0) + row.many()
    return tuple(sorted([(window, value, many) for (window, value), many in counts.items()]))


def _joined_pasts(pasts, letters):
    """For each meter the past with the most slots and the greatest floor for these, a dict by the names."""
    kept = {}
    for past in pasts:
        name = past[0]
        if name not in kept or kept[name][1:3] < past[1:3]:
            kept[name] = past
    for letter in letters:
        past = kept.get(letter[1])
        if letter[0] == "close" and past is not None and letter[2] == past[1]:
            name, number, floor, versions, rows = past
            kept[name] = (name, number, max(floor, letter[3]), versions, rows)
    return kept
