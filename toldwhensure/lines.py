"""Lines: they carry letters, and may lose, double and reorder them."""

from toldwhensure.errors import NoLetter


class Line:
    """A line with the letters that are on their way."""

    def __init__(self):
        self.letters = []

    def send(self, letters):
        """Put the letters behind the end, in their order."""
        self.letters.extend(list(letters))

    def waiting(self):
        """The letters on their way, a tuple in the order of the line."""
        return tuple(self.letters)

    def deliver(self, index):
        """Return the letter, which leaves the line; raise NoLetter if there is none at this index."""
        self._check_index(index)
        return self.letters.pop(index)

    def lose(self, index):
        """The letter leaves the line; raise NoLetter if there is none at this index."""
        self._check_index(index)
        del self.letters[index]

    def double(self, index):
        """Put an equal letter behind the end; raise NoLetter if there is none at this index."""
        self._check_index(index)
        self.letters.append(self.letters[index])

    def _check_index(self, index):
        if not 0 <= index < len(self.letters):
            raise NoLetter("the line has no letter at this index")
