"""Towns: a number of people, and the clubs that they are in."""

from pairclubs.errors import BadClub, BadNumber, BadPerson, BadTown

FEWEST_PEOPLE = 3
MOST_PEOPLE = 31


def is_integer_from(value, low, high):
    """Tell whether a value is an integer from low to high."""
    # For Python True and False are integers; for the package they are none.
    return isinstance(value, int) and not isinstance(value, bool) and low <= value <= high


def check_number(value, low, high):
    """Raise BadNumber for a value that is no integer from low to high."""
    if not is_integer_from(value, low, high):
        raise BadNumber()


def is_ascending(values):
    """Tell whether each of the values, which can be compared, is greater than the one ahead."""
    return all([low < high for low, high in zip(values, values[1:])])


def is_person(value, people):
    """Tell whether a value is one of so many people."""
    return is_integer_from(value, 0, people - 1)


def is_club(value, people):
    """Tell whether a value is a club of so many people: ascending, of two or more, not of all."""
    if not isinstance(value, tuple) or not 2 <= len(value) < people:
        return False
    # Only integers are compared: other values may have no order.
    return all(is_person(person, people) for person in value) and is_ascending(value)


def are_clubs(value, people):
    """Tell whether a value is an ascending tuple of unlike clubs of so many people."""
    if not isinstance(value, tuple):
        return False
    return all(is_club(club, people) for club in value) and is_ascending(value)


def wrong_part(value):
    """Return the word for the first part of a value that is wrong for a town, None for a town."""
    if not isinstance(value, tuple) or len(value) != 2:
        return "whole"
    people, clubs = value
    if not is_integer_from(people, FEWEST_PEOPLE, MOST_PEOPLE):
        return "people"
    if not are_clubs(clubs, people):
        return "clubs"
    return None


def is_town(value):
    """Tell whether a value is a town."""
    return wrong_part(value) is None


def check_town(value):
    """Raise BadTown for a value that is no town."""
    part = wrong_part(value)
    if part is not None:
        raise BadTown(part)


def check_person(value, people):
    """Raise BadPerson for a value that is none of so many people."""
    if not is_person(value, people):
        raise BadPerson()


def check_club(value, people):
    """Raise BadClub for a value that is no club of so many people."""
    if not is_club(value, people):
        raise BadClub()


def clubs_with(clubs, person):
    """Return the tuple of those of the clubs that a person is in, in their order."""
    return tuple([club for club in clubs if person in club])


def members(town):
    """Return the tuple of how many clubs each person of a town is in."""
    check_town(town)
    people, clubs = town
    return tuple([len(clubs_with(clubs, person)) for person in range(people)])


def clubs_of(town, person):
    """Return the ascending tuple of the clubs that a person of a town is in."""
    check_town(town)
    people, clubs = town
    check_person(person, people)
    return clubs_with(clubs, person)


def together(town, one, other):
    """Return the ascending tuple of the clubs that two unlike people of a town are in."""
    check_town(town)
    people, clubs = town
    check_person(one, people)
    check_person(other, people)
    if one == other:
        raise BadPerson()
    return clubs_with(clubs_with(clubs, one), other)
