"""Points 1 and 4: surplus, kinds, close."""

import itertools
import unittest

from checking import TownTestCase
from pairclubs.errors import NotPairs
from pairclubs.kinds import close, kinds, surplus
from town_lists import (
    SEVEN, TRIANGLE, affine_plane, all_pair_towns, all_towns, every_pair_town, pencil_around, projective_plane,
    times_together,
)

FUNCTIONS = (surplus, kinds, close)
FOUR = (4, ((0, 1, 2), (0, 3), (1, 3), (2, 3)))
CROSSED = (5, ((0, 1, 2), (0, 3, 4), (1, 3), (1, 4), (2, 3), (2, 4)))

# All pair towns of 3 to 6 people, and some of more.
PAIR_TOWNS = [town for people in range(3, 7) for town in all_pair_towns(people)] + [
    SEVEN, pencil_around(7, 3), every_pair_town(7), affine_plane(3), projective_plane(3), affine_plane(5),
    pencil_around(31, 0), pencil_around(31, 30), projective_plane(5), every_pair_town(31),
]

NOT_PAIRS = [
    (3, ()), (31, ()), (3, ((0, 1),)), (3, ((0, 1), (0, 2))), (4, ((0, 1, 2), (0, 3), (1, 3))),
    (4, ((0, 1, 2), (0, 1, 3))), (4, ((0, 1), (0, 1, 2), (0, 3), (1, 3), (2, 3))),
    (4, ((0, 1, 2), (0, 1, 3), (2, 3))), (5, ((0, 1, 2), (0, 3, 4))), (7, SEVEN[1][1:]), (7, SEVEN[1][:-1]),
    (7, ((0, 1),) + SEVEN[1]), (31, every_pair_town(31)[1][:-1]), (31, (tuple(range(30)),)),
]


def is_pencil(town):
    people, clubs = town
    return any(
        set(clubs) >= {tuple(x for x in range(people) if x != hub)} | {
            tuple(sorted((x, hub))) for x in range(people) if x != hub
        }
        for hub in range(people)
    )


def is_plane(town):
    people, clubs = town
    degrees = {sum(person in club for club in clubs) for person in range(people)}
    return len({len(club) for club in clubs} | degrees) == 1


class SurplusTests(TownTestCase):

    def test_ordinary_towns(self):
        for town, number in [
            (TRIANGLE, 0), (FOUR, 0), (CROSSED, 1), (every_pair_town(4), 2), (every_pair_town(5), 5),
            (every_pair_town(6), 9), (SEVEN, 0), (affine_plane(3), 3), (affine_plane(5), 5), (projective_plane(3), 0),
        ]:
            with self.subTest(town):
                self.assertEqual(surplus(town), number)
                self.assertIs(type(surplus(town)), int)

    def test_thirty_one_people(self):
        self.assertEqual(surplus(pencil_around(31, 15)), 0)
        self.assertEqual(surplus(projective_plane(5)), 0)
        self.assertEqual(surplus(every_pair_town(31)), 434)

    def test_clubs_less_people_and_never_below_zero(self):
        for town in PAIR_TOWNS:
            self.assertEqual(surplus(town), len(town[1]) - town[0])
            self.assertGreaterEqual(surplus(town), 0)

    def test_zero_exactly_if_of_some_kind(self):
        for town in PAIR_TOWNS:
            with self.subTest(town):
                self.assertEqual(surplus(town) == 0, kinds(town) != ())


class KindsTests(TownTestCase):

    def test_three_people_are_both(self):
        self.assertEqual(kinds(TRIANGLE), ("pencil", "plane"))

    def test_pencils_around_each_person(self):
        for people in (4, 5, 6, 7, 31):
            for person in range(people):
                with self.subTest(people=people, person=person):
                    self.assertEqual(kinds(pencil_around(people, person)), ("pencil",))

    def test_planes(self):
        for prime in (2, 3, 5):
            with self.subTest(prime):
                self.assertEqual(kinds(projective_plane(prime)), ("plane",))

    def test_as_many_members_but_people_in_more_clubs(self):
        for town in (affine_plane(2), affine_plane(3), affine_plane(5), every_pair_town(4), every_pair_town(31)):
            with self.subTest(town):
                self.assertEqual(kinds(town), ())

    def test_neither(self):
        self.assertEqual(kinds(CROSSED), ())
        self.assertEqual(kinds((6, ((0, 1, 2, 3), (0, 4), (0, 5), (1, 4), (1, 5), (2, 4), (2, 5), (3, 4), (3, 5),
                                    (4, 5)))), ())

    def test_all_pair_towns_of_few_people(self):
        for town in PAIR_TOWNS:
            words = [word for word, true in (("pencil", is_pencil(town)), ("plane", is_plane(town))) if true]
            with self.subTest(town):
                self.assertEqual(kinds(town), tuple(words))

    def test_kind_of_value(self):
        self.check_tuple_of({str}, kinds(TRIANGLE))
        self.assertIs(type(kinds(CROSSED)), tuple)


class CloseTests(TownTestCase):

    def test_ordinary_towns(self):
        self.assertEqual(close(TRIANGLE), ((0, (1, 2)), (1, (0, 2)), (2, (0, 1))))
        self.assertEqual(close(FOUR), (
            (0, (1, 3)), (0, (2, 3)), (1, (0, 3)), (1, (2, 3)), (2, (0, 3)), (2, (1, 3)), (3, (0, 1, 2)),
        ))
        self.assertEqual(close(CROSSED), (
            (0, (1, 3)), (0, (1, 4)), (0, (2, 3)), (0, (2, 4)),
            (1, (0, 3, 4)), (2, (0, 3, 4)), (3, (0, 1, 2)), (4, (0, 1, 2)),
        ))

    def test_none(self):
        self.assertEqual(close(every_pair_town(4)), ())
        self.assertEqual(close(every_pair_town(31)), ())
        self.assertEqual(close(affine_plane(3)), ())

    def test_every_club_without_the_person_in_a_plane(self):
        for prime in (2, 3, 5):
            people, clubs = projective_plane(prime)
            outside = tuple((x, club) for x in range(people) for club in clubs if x not in club)
            self.assertEqual(close((people, clubs)), outside)

    def test_in_just_as_many_clubs_as_members_and_never_in_fewer(self):
        for town in PAIR_TOWNS:
            people, clubs = town
            found = []
            for person, club in itertools.product(range(people), clubs):
                many = sum(person in other for other in clubs)
                if person not in club:
                    self.assertGreaterEqual(many, len(club))
                    if many == len(club):
                        found.append((person, club))
            self.assertEqual(close(town), tuple(sorted(found)))

    def test_kind_of_value(self):
        self.check_tuple_of({tuple}, close(FOUR))
        for person, club in close(FOUR):
            self.assertIs(type(person), int)
            self.check_tuple_of({int}, club)


class WrongTownTests(TownTestCase):

    def test_no_towns(self):
        for function in FUNCTIONS:
            self.check_wrong_towns(function)

    def test_no_pair_towns(self):
        for function in FUNCTIONS:
            for town in NOT_PAIRS:
                self.check_raises(NotPairs, {}, function, town)

    def test_all_towns_of_four(self):
        for town in all_towns(4):
            if all(times_together(town, pair) == 1 for pair in itertools.combinations(range(4), 2)):
                self.assertGreaterEqual(surplus(town), 0)
            else:
                with self.assertRaises(NotPairs):
                    kinds(town)

    def test_arguments_are_not_modified(self):
        for value in [SEVEN, FOUR, (3, ()), [3, [[1, 0]]], (3, [(1, 0)]), (3, ([1, 0],)), {3: [2, 1]}, [2, 1]]:
            for function in FUNCTIONS:
                self.check_unmodified(function, value)


class ExampleTests(TownTestCase):

    def test_first_example(self):
        four, three = (4, ((0, 1, 2), (0, 3), (1, 3), (2, 3))), (3, ((0, 1), (0, 2), (1, 2)))
        self.assertEqual(
            [surplus(four), kinds(four), kinds(three), close(three)],
            [0, ("pencil",), ("pencil", "plane"), ((0, (1, 2)), (1, (0, 2)), (2, (0, 1)))],
        )

    def test_second_example(self):
        self.check_raises(NotPairs, {}, kinds, (3, ((0, 1),)))


if __name__ == "__main__":
    unittest.main()
