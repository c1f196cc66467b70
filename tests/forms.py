"""Points [20] to [22] and [28] to [31] in their own words, and what the tests of these forms have in common."""

import copy
import itertools

from tests.brute import closes_of, random_letters, random_log
from tests.telling import Told
from toldwhensure.histories import reads_of
from toldwhensure.plans import window_of

AGGREGATES = (("count",), ("sum",), ("among", 1, 2), ("rank", 0, 1), ("rank", 1, 2), ("rank", 1, 1))


def about(letters, kind, name):
    return [letter for letter in letters if letter[:2] == (kind, name)]


def plain_offsets(meter, letters):
    clocks = about(letters, "clock", meter[0])
    return max([-meter[3]] + [clock[2] for clock in clocks]), min([meter[3]] + [clock[3] for clock in clocks])


def plain_known(letters, name):
    """The "read" letter of the known version of each received slot."""
    known = {}
    for letter in sorted(about(letters, "read", name), key=lambda letter: letter[2:5]):
        known[letter[2]] = letter
    return known


def plain_stamps(letters, name):
    """The stamps of the "close" letters of each number, and the versions that these tell."""
    found = {}
    for _, _, number, stamp, versions in about(letters, "close", name):
        found.setdefault(number, ([], versions))[0].append(stamp)
    return found


def plain_condensed(plan, letters):
    found = []
    for meter in plan[1]:
        name = meter[0]
        found += plain_known(letters, name).values()
        for number, (stamps, versions) in plain_stamps(letters, name).items():
            found.append(("close", name, number, max(stamps), versions))
            if number > 0:
                found.append(("close", name, number, min(stamps), versions))
        if about(letters, "clock", name):
            found.append(("clock", name, *plain_offsets(meter, letters)))
    return tuple(sorted(set(found)))


def plain_settled(plan, letters, name):
    meter = next(meter for meter in plan[1] if meter[0] == name)
    low, high = plain_offsets(meter, letters)
    known = plain_known(letters, name)
    closes = plain_stamps(letters, name)
    return max([0] + [
        number for number in closes if number > 0
        and all(slot in known for slot in range(1, number + 1))
        # All versions that are told up to the number are known ones, and so are those up to each lower number.
        and closes[number][1] == sum(known[slot][3] + 1 for slot in range(1, number + 1))
        and all(len({window_of(plan, known[slot][4] + offset) for offset in range(low, high + 1)}) == 1
                for slot in range(1, number + 1))
    ])


def plain_folded(plan, letters):
    pasts, left = [], list(plain_condensed(plan, letters))
    for meter in plan[1]:
        name = meter[0]
        number = plain_settled(plan, letters, name)
        if number > 0:
            low, _ = plain_offsets(meter, letters)
            stamps, versions = plain_stamps(letters, name)[number]
            known = plain_known(letters, name)
            settled = [(window_of(plan, known[slot][4] + low), known[slot][5]) for slot in range(1, number + 1)]
            settled = [place for place in settled if place[1] is not None]
            rows = tuple(sorted((*place, settled.count(place)) for place in set(settled)))
            pasts.append((name, number, max(stamps), versions, rows))
            left = [letter for letter in left if not is_dropped(letter, name, number)]
    return tuple(pasts), tuple(left)


def is_dropped(letter, name, number):
    return letter[1] == name and letter[0] in ("read", "close") and letter[2] <= number


def random_plan(choices):
    length = choices.choice((1, 3, 4, 7))
    meters = [("a", 0, choices.randint(0, 3), choices.choice((0, 0, 1, 2))), ("b", -1, 1, choices.choice((0, 1)))]
    return length, tuple(meters[:choices.randint(1, 2)])


def random_history(choices, plan):
    return tuple(random_log(choices, meter, range(-3, 13), 6, 3) for meter in plan[1])


def true_letters(choices, history):
    """Some letters that are true of the history; often all letters of a log."""
    letters = []
    for log in history:
        if choices.random() < 0.4:
            letters += random_letters(choices, log, -5, 15)
            continue
        letters += reads_of((log,))
        closes = closes_of(log, -5, 15)
        letters += choices.sample(closes, choices.randint(0, min(len(closes), 8)))
        if choices.random() < 0.6:
            letters.append(("clock", log[0], log[1] - choices.randint(0, 1), log[1] + choices.randint(0, 1)))
    choices.shuffle(letters)
    return letters


class Forms(Told):
    """Tests of forms, which are the same for each way in which a bag is passed."""

    def assert_tuples(self, part):
        """It has no changeable part."""
        if part is not None and not isinstance(part, (int, str)):
            self.assertIs(part.__class__, tuple)
            for inner in part:
                self.assert_tuples(inner)

    def form_of(self, call, letters):
        """What the call makes of the bag, whatever its order."""
        before = copy.deepcopy(letters)
        found = self.same_for_each_form(call, letters)
        if len(letters) < 5:
            for order in itertools.permutations(letters):
                self.assertEqual(call(order), found)
        self.assertEqual(letters, before)
        self.assert_tuples(found)
        return found
