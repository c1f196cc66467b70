"""The errors that the program raises."""


class GatherError(ValueError):
    """The base class of all errors that the program raises."""


class InvalidPlan(GatherError):
    """A plan is not right."""


class InvalidLetter(GatherError):
    """A letter is not valid for its plan."""


class InvalidAlarm(GatherError):
    """An alarm is not right."""


class InvalidEntry(GatherError):
    """A meter can't make this entry in its log."""


class BadText(GatherError):
    """A line of a text is not the written form of a valid letter."""

    # Python takes the number alone for the message; in a sentence it would refuse very large ones.
    def __init__(self, line):
        self.line = line


class NotPossible(GatherError):
    """No history agrees with a bag."""


class NoNote(GatherError):
    """A hall does not have this note."""


class NoSlot(GatherError):
    """A log has no slot of this number."""


class Closed(GatherError):
    """A slot is closed already."""


class NoLetter(GatherError):
    """A line has no letter at this index."""
