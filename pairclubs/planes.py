"""Pencils and planes: the pair towns with just as many clubs as people."""

from pairclubs.errors import BadNumber
from pairclubs.towns import FEWEST_PEOPLE, MOST_PEOPLE, check_number

# The planes of these primes are the ones that have no more people than a town can have.
PRIMES = (2, 3, 5)


def is_point(triple):
    """Tell whether not all of a triple is 0, and the first that isn't 0 is 1."""
    rest = [number for number in triple if number != 0]
    return rest[:1] == [1]


def points_of(prime):
    """Return the ascending list of the triples of integers below a prime that are the people of its plane."""
    triples = [(x, y, z) for x in range(prime) for y in range(prime) for z in range(prime)]
    return [triple for triple in triples if is_point(triple)]


def club_along(line, points, prime):
    """Return the club of the numbers of the points (x, y, z) on the line (a, b, c)."""
    a, b, c = line
    return tuple([at for at, (x, y, z) in enumerate(points) if (a * x + b * y + c * z) % prime == 0])


def pencil(people):
    """Return the pencil of so many people in which all but the last one are a club."""
    check_number(people, FEWEST_PEOPLE, MOST_PEOPLE)
    last = people - 1
    # In this order the clubs are ascending: no other club's second person is below the last one.
    return (people, (tuple(range(last)), *[(person, last) for person in range(last)]))


def plane(prime):
    """Return the plane of 2, 3 or 5, whose people are triples of integers below this prime."""
    # True and False are equal to no prime, so they are not let either.
    if prime not in PRIMES:
        raise BadNumber()
    points = points_of(prime)
    return (len(points), tuple(sorted([club_along(line, points, prime) for line in points])))
