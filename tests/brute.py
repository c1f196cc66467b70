"""All small histories of small plans, one by one, and the bags that are true of them."""

from itertools import combinations_with_replacement, product

from toldwhensure.histories import is_true, reads_of


def all_versions(low, high, most):
    """All tuples of at most so many versions of a slot."""
    values = list(range(low, high + 1))
    found = []
    for many in range(1, most + 1):
        found += [(first, *rest) for first in values for rest in product([*values, None], repeat=many - 1)]
    return found


def all_logs(meter, stamps, most_slots, most_versions, offsets=None):
    """All logs of the meter with these stamps (in ascending order) and at most so many slots and versions."""
    name, low, high, error = meter
    versions = all_versions(low, high, most_versions)
    found = []
    for offset in range(-error, error + 1) if offsets is None else offsets:
        for many in range(most_slots + 1):
            for chosen in combinations_with_replacement(stamps, many):
                for contents in product(versions, repeat=many):
                    found.append((name, offset, tuple(zip(chosen, contents))))
    return found


def all_histories(plan, stamps, most_slots, most_versions):
    """All histories of the plan with logs such as these."""
    return list(product(*[all_logs(meter, stamps, most_slots, most_versions) for meter in plan[1]]))


class Truth:
    """Which letters are true of which of the histories: a bit for each history."""

    def __init__(self, histories):
        self.histories = histories
        self.everything = (1 << len(histories)) - 1
        self.known = {}

    def of_letter(self, letter):
        if letter not in self.known:
            bits = "".join("1" if is_true(letter, history) else "0" for history in reversed(self.histories))
            self.known[letter] = int(bits, 2)
        return self.known[letter]

    def of_bag(self, letters):
        found = self.everything
        for letter in letters:
            found &= self.of_letter(letter)
        return found

    def agreeing(self, letters):
        """The numbers of the histories that agree with the bag."""
        found = self.of_bag(letters)
        return [number for number, bit in enumerate(reversed(bin(found)[2:])) if bit == "1"]


def random_log(choices, meter, stamps, most_slots, most_versions):
    """A log of the meter with stamps from this range."""
    name, low, high, error = meter
    chosen = sorted(choices.choices(stamps, k=choices.randint(0, most_slots)))
    slots = []
    for stamp in chosen:
        later = choices.choices([*range(low, high + 1), None], k=choices.randint(0, most_versions - 1))
        slots.append((stamp, (choices.randint(low, high), *later)))
    return name, choices.randint(-error, error), tuple(slots)


def closes_of(log, first, last):
    """All "close" letters with a stamp from first to last that are true of the log."""
    name, _, slots = log
    found = []
    for many in range(len(slots) + 1):
        low = slots[many - 1][0] + 1 if many else first
        high = slots[many][0] if many < len(slots) else last
        versions = sum(len(slot[1]) for slot in slots[:many])
        found += [("close", name, many, stamp, versions) for stamp in range(max(low, first), min(high, last) + 1)]
    return found


def random_letters(choices, log, first, last):
    """Some letters that are true of the log."""
    name, offset, _ = log
    letters = []
    for possible in (reads_of((log,)), closes_of(log, first, last)):
        share = choices.choice((0, 0.2, 0.5, 0.8, 1))
        letters += [letter for letter in possible if choices.random() < share]
    if choices.random() < 0.5:
        letters.append(("clock", name, offset - choices.randint(0, 2), offset + choices.randint(0, 2)))
    return letters
