"""The founding of a town: its clubs are added one by one, and can be taken back."""

from pairclubs.errors import NoClub, NoStep
from pairclubs.finishes import can_add
from pairclubs.pairs import missing
from pairclubs.towns import FEWEST_PEOPLE, MOST_PEOPLE, check_number


class Founding:
    """A town, without clubs at first, in which no two people get together in several clubs."""

    def __init__(self, people):
        check_number(people, FEWEST_PEOPLE, MOST_PEOPLE)
        self._people = people
        self._added = []

    @property
    def town(self):
        """The town with the clubs that are added and not taken back."""
        return (self._people, tuple(sorted(self._added)))

    @property
    def added(self):
        """The tuple of the clubs that are added and not taken back, in that order."""
        return tuple(self._added)

    def add(self, club):
        """Add a club, of which no two members are together in a club already."""
        if not can_add(self.town, club):
            raise NoClub()
        self._added.append(club)

    def undo(self):
        """Take back the club that was added last."""
        if len(self._added) == 0:
            raise NoStep()
        self._added.pop()

    def missing(self):
        """Return how many pairs of people are in no club together."""
        return len(missing(self.town))
