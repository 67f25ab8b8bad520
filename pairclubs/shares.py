"""What the clubs of a town have in common, and the town whose people are these clubs."""

from pairclubs.towns import check_town, is_town


def count_in_common(one, other):
    """Return how many people two clubs have in common."""
    return len([person for person in one if person in other])


def numbers_of_clubs(clubs, person):
    """Return the ascending tuple of the places, from 0, of the clubs that a person is in."""
    return tuple([at for at, club in enumerate(clubs) if person in club])


def shares(town):
    """Return the ascending tuple of all numbers of people that some two unlike clubs of a town have in common."""
    check_town(town)
    clubs = town[1]
    return tuple(sorted({count_in_common(one, other) for at, one in enumerate(clubs) for other in clubs[:at]}))


def is_evenly_shared(town):
    """Tell whether any two unlike clubs of a town have the same number of people in common, above 0."""
    numbers = shares(town)
    return len(numbers) <= 1 and 0 not in numbers


def turned(town):
    """Return the town with a person for each club of a town and a club for each person, None if that is no town."""
    check_town(town)
    people, clubs = town
    value = (len(clubs), tuple(sorted([numbers_of_clubs(clubs, person) for person in range(people)])))
    # Two people in the same clubs give the same club twice here, which no town has.
    return value if is_town(value) else None
