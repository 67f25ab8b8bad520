"""Pairs of people: those who are in no club together, in one, or in several."""

from pairclubs.towns import check_town


def pairs_among(people):
    """Return the list of the pairs of these people, who are ascending; the pairs are so, too."""
    return [(one, other) for at, one in enumerate(people) for other in people[at + 1:]]


def counts_by_pair(town):
    """Return a dict that tells, pair by pair ascending, in how many clubs the two are together."""
    people, clubs = town
    counts = {pair: 0 for pair in pairs_among(list(range(people)))}
    for club in clubs:
        for pair in pairs_among(club):
            counts[pair] += 1
    return counts


def missing(town):
    """Return the ascending tuple of the pairs of people who are in no club together."""
    check_town(town)
    counts = counts_by_pair(town)
    return tuple([pair for pair in counts if counts[pair] == 0])


def doubled(town):
    """Return the ascending tuple of the pairs of people who are in several clubs together."""
    check_town(town)
    counts = counts_by_pair(town)
    return tuple([pair for pair in counts if counts[pair] > 1])


def is_pair_town(town):
    """Tell whether any two people of a town are together in just one club."""
    check_town(town)
    counts = counts_by_pair(town)
    return all(counts[pair] == 1 for pair in counts)
