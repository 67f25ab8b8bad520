"""Pair towns: how many clubs they have beyond their people, and which of them are pencils or planes."""

from pairclubs.errors import NotPairs
from pairclubs.pairs import is_pair_town
from pairclubs.towns import members


def check_pair_town(town):
    """Raise NotPairs for a town that is no pair town, BadTown for a value that is no town."""
    if not is_pair_town(town):
        raise NotPairs()


def is_pencil_around(town, person):
    """Tell whether all but this person are a club, and each of them is one with this person."""
    people, clubs = town
    others = tuple([other for other in range(people) if other != person])
    if others not in clubs:
        return False
    return all(tuple(sorted([person, other])) in clubs for other in others)


def is_pencil(town):
    """Tell whether a pair town is a pencil around one of its people."""
    people = town[0]
    return any(is_pencil_around(town, person) for person in range(people))


def is_plane(town):
    """Tell whether all clubs of a pair town have as many members, and each person is in so many clubs."""
    clubs = town[1]
    # There is a first club: the people of a pair town, three or more, are in clubs.
    size = len(clubs[0])
    return all(len(club) == size for club in clubs) and all(many == size for many in members(town))


def surplus(town):
    """Return how many clubs more than people a pair town has."""
    check_pair_town(town)
    people, clubs = town
    return len(clubs) - people


def kinds(town):
    """Return the ascending tuple of those of the words "pencil" and "plane" that are true of a pair town."""
    check_pair_town(town)
    found = []
    if is_pencil(town):
        found.append("pencil")
    if is_plane(town):
        found.append("plane")
    return tuple(found)


def close(town):
    """Return the ascending tuple of the pairs of a person and a club without this person in a pair town.

    The person is in just as many clubs as the club has members.
    """
    check_pair_town(town)
    people, clubs = town
    counts = members(town)
    return tuple([
        (person, club) for person in range(people) for club in clubs
        if person not in club and counts[person] == len(club)
    ])
