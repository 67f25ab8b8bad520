"""Towns for the tests, listed without the package: all of few people, and some of more."""

import itertools

TRIANGLE = (3, ((0, 1), (0, 2), (1, 2)))
SEVEN = (7, ((0, 1, 2), (0, 3, 4), (0, 5, 6), (1, 3, 5), (1, 4, 6), (2, 3, 6), (2, 4, 5)))


def every_pair_town(people):
    """The pair town in which each two people are a club."""
    return (people, tuple(itertools.combinations(range(people), 2)))


def pencil_around(people, person):
    others = tuple(other for other in range(people) if other != person)
    return (people, tuple(sorted([others] + [tuple(sorted((person, other))) for other in others])))


def projective_plane(prime):
    points = [
        point for point in itertools.product(range(prime), repeat=3)
        if any(point) and next(x for x in point if x) == 1
    ]
    lines = [
        tuple(at for at, point in enumerate(points) if sum(a * x for a, x in zip(line, point)) % prime == 0)
        for line in points
    ]
    return (len(points), tuple(sorted(lines)))


def affine_plane(prime):
    """The pair town of prime * prime people: the points (x, y) with the lines through them."""
    lines = [[(x, (a * x + b) % prime) for x in range(prime)] for a in range(prime) for b in range(prime)]
    lines += [[(a, y) for y in range(prime)] for a in range(prime)]
    return (prime * prime, tuple(sorted(tuple(sorted(prime * x + y for x, y in line)) for line in lines)))


def all_clubs(people):
    return sorted(club for size in range(2, people) for club in itertools.combinations(range(people), size))


def all_towns(people):
    clubs = all_clubs(people)
    for many in range(len(clubs) + 1):
        for chosen in itertools.combinations(clubs, many):
            yield (people, chosen)


def begun_towns(people):
    """Every town in which no two people are together in several clubs, once each."""
    clubs = [(club, set(itertools.combinations(club, 2))) for club in all_clubs(people)]

    def chosen(at, used):
        if at == len(clubs):
            yield ()
            return
        yield from chosen(at + 1, used)
        club, inside = clubs[at]
        if not inside & used:
            for others in chosen(at + 1, used | inside):
                yield (club,) + others

    for town in chosen(0, set()):
        yield (people, town)


def all_pair_towns(people):
    every = len(every_pair_town(people)[1])
    return [
        town for town in begun_towns(people)
        if sum(len(list(itertools.combinations(club, 2))) for club in town[1]) == every
    ]


def times_together(town, pair):
    return len([club for club in town[1] if set(pair) <= set(club)])
