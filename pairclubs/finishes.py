"""Towns begun, in which no two people are together in several clubs, and the pair towns they can become."""

from pairclubs.errors import BadNumber, Doubled
from pairclubs.pairs import doubled, is_pair_town, missing, pairs_among
from pairclubs.towns import check_club, is_town

MOST_PEOPLE_TO_SEARCH = 6


def check_begun(town):
    """Raise Doubled for a town with two people in several clubs together, BadTown for a value that is no town."""
    if doubled(town) != ():
        raise Doubled()


def check_searchable(town):
    """Raise BadNumber for a town begun of too many people, and what check_begun raises for no town begun."""
    check_begun(town)
    if town[0] > MOST_PEOPLE_TO_SEARCH:
        raise BadNumber()


def with_clubs(town, more):
    """Return the town that has the clubs of a town and these clubs, none of which it has."""
    people, clubs = town
    return (people, tuple(sorted([*clubs, *more])))


def can_join(club, person, pairs):
    """Tell whether a person greater than all members of a club is in one of the pairs with each of them."""
    return all((member, person) in pairs for member in club)


def clubs_with_first(pairs, people):
    """Return the list of the clubs of so many people with the first of the ascending pairs, any two in a pair."""
    first = pairs[0]
    clubs = [first]
    # Whoever is in a pair with both people of the first one is greater than they are.
    for person in range(first[1] + 1, people):
        clubs = clubs + [club + (person,) for club in clubs if can_join(club, person, pairs)]
    return [club for club in clubs if len(club) < people]


def coverings(pairs, people):
    """Return the list of all lists of clubs of so many people in which just these ascending pairs are, each once."""
    if len(pairs) == 0:
        return [[]]
    found = []
    # Just one club of a covering has the first pair, so no covering is found twice.
    for club in clubs_with_first(pairs, people):
        inside = pairs_among(club)
        rest = [pair for pair in pairs if pair not in inside]
        found.extend([[club, *others] for others in coverings(rest, people)])
    return found


def can_add(town, club):
    """Tell whether no two members of a club are together in a club of a town begun."""
    check_begun(town)
    people = town[0]
    check_club(club, people)
    free = missing(town)
    return all(pair in free for pair in pairs_among(club))


def finished(town):
    """Return the pair town that has the clubs of a town begun and all its missing pairs as clubs."""
    check_begun(town)
    return with_clubs(town, missing(town))


def least_finished(town):
    """Return a pair town with all clubs of a town begun of few people, and with as few clubs as can be."""
    check_searchable(town)
    people = town[0]
    return with_clubs(town, min(coverings(missing(town), people), key=len))


def shows_least_finished(town, value):
    """Tell whether a value is a pair town that least_finished may return for a town."""
    fewest = len(least_finished(town)[1])
    if not is_town(value) or not is_pair_town(value):
        return False
    people, clubs = value
    return people == town[0] and len(clubs) == fewest and all(club in clubs for club in town[1])
