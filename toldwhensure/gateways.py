"""Gateways: they merge letters on the way."""

from toldwhensure.folding import folded, join_folded
from toldwhensure.letters import check_letters


class Gateway:
    """A gateway: it keeps the folded form of all letters that it took, and hands it on as a bundle."""

    def __init__(self, plan):
        self.plan = plan
        self.kept = folded(plan, ())

    def take(self, letters):
        """Take the letters of a bag; raise InvalidLetter, and take none, if one of them is not valid."""
        check_letters(self.plan, letters)
        self.take_bundle(folded(self.plan, letters))

    def take_bundle(self, form):
        """Take a bundle."""
        self.kept = join_folded(self.plan, self.kept, form)

    def bundle(self):
        """The folded form of all that it took."""
        return self.kept
