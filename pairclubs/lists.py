"""All pair towns of few people, and how many of them have so many clubs."""

from pairclubs.finishes import MOST_PEOPLE_TO_SEARCH, coverings, with_clubs
from pairclubs.pairs import missing
from pairclubs.towns import FEWEST_PEOPLE, check_number


def pair_towns(people):
    """Return the ascending tuple of all pair towns of so many people."""
    check_number(people, FEWEST_PEOPLE, MOST_PEOPLE_TO_SEARCH)
    town = (people, ())
    return tuple(sorted([with_clubs(town, clubs) for clubs in coverings(missing(town), people)]))


def counts_by_clubs(people):
    """Return the ascending tuple of the pairs of a number of clubs and of how many pair towns have so many."""
    counts = {}
    for town in pair_towns(people):
        many = len(town[1])
        counts[many] = counts.get(many, 0) + 1
    return tuple(sorted(counts.items()))
