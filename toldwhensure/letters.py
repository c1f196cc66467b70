"""Letters: which are valid, and their written form."""

from toldwhensure.errors import BadText, InvalidLetter
from toldwhensure.plans import names_of

# After the kind and the name, a written letter has one of these words before each of its numbers.
WORDS = {
    "read": ("slot", "version", "at", "is"),
    "close": ("after", "at", "with"),
    "clock": ("from", "to"),
}
VOID = "void"
DIGITS = "0123456789"
MOST_DIGITS = 60


# The messages name no numbers: Python refuses to write out very large integers.
def check_letter(plan, letter):
    """Raise InvalidLetter unless the letter is valid for the plan."""
    kind, name, *numbers = letter
    if name not in names_of(plan):
        raise InvalidLetter("no meter of the plan has this name")
    if kind == "read":
        _check_read(numbers)
    if kind == "close":
        _check_close(numbers)


def check_letters(plan, letters):
    """Raise InvalidLetter unless all letters are valid for the plan."""
    for letter in letters:
        check_letter(plan, letter)


def _check_read(numbers):
    slot, version = numbers[:2]
    if slot < 1:
        raise InvalidLetter("the number of a slot is less than 1")
    if version < 0:
        raise InvalidLetter("the index of a version is negative")


def _check_close(numbers):
    slots, versions = numbers[0], numbers[2]
    if slots < 0:
        raise InvalidLetter("the number of slots is negative")
    if versions < 0:
        raise InvalidLetter("the number of versions is negative")


def write_bag(letters):
    """The text of a bag of valid letters."""
    return "".join([_line_of(letter) for letter in letters])


def _line_of(letter):
    kind, name, *numbers = letter
    parts = [kind, name]
    for word, number in zip(WORDS[kind], numbers):
        parts.append(word)
        parts.append(VOID if number is None else str(number))
    return " ".join(parts) + "\n"


def read_bag(plan, text):
    """The letters of the text in their order; raise BadText for the first bad line."""
    lines = text.split("\n")
    # What stands behind the last newline is a line that did not end, if it is anything.
    rest = lines.pop()
    letters = []
    for number, line in enumerate(lines, start=1):
        try:
            letters.append(_letter_of(plan, line))
        except InvalidLetter:
            raise BadText(number) from None
    if rest != "":
        raise BadText(len(lines) + 1)
    return tuple(letters)


def _letter_of(plan, line):
    """The letter that the line writes; raise InvalidLetter if it writes no valid one."""
    # Splitting at single spaces makes any space too many an empty part, which fits nowhere.
    parts = line.split(" ")
    kind = parts[0]
    if kind not in WORDS or len(parts) != 2 + 2 * len(WORDS[kind]):
        raise InvalidLetter("a line has not the parts of a letter")
    if tuple(parts[2::2]) != WORDS[kind]:
        raise InvalidLetter("a line has another word in the place of a word")
    numbers = [_number_of(word, part) for word, part in zip(parts[2::2], parts[3::2])]
    letter = (kind, parts[1], *numbers)
    check_letter(plan, letter)
    return letter


def _number_of(word, part):
    """The integer that the part writes, or None for void, which may only stand behind `is`."""
    if word == "is" and part == VOID:
        return None
    digits = part.removeprefix("-")
    if not 1 <= len(digits) <= MOST_DIGITS or not all([digit in DIGITS for digit in digits]):
        raise InvalidLetter("a line has no integer of few enough digits in the place of one")
    number = int(part)
    # Only an integer with a needless zero, or -0, is written in another way.
    if str(number) != part:
        raise InvalidLetter("a line has an integer with needless zeros")
    return number
