"""Points 1 and 6: shares, is_evenly_shared, turned."""

import itertools
import unittest

from checking import TownTestCase
from pairclubs.shares import is_evenly_shared, shares, turned
from town_lists import (
    SEVEN, TRIANGLE, affine_plane, all_pair_towns, all_towns, every_pair_town, pencil_around, projective_plane,
)

FUNCTIONS = (shares, is_evenly_shared, turned)

# Any two clubs have two people in common: the clubs are what the lines of the plane leave out.
OUTSIDE_SEVEN = (7, tuple(sorted(tuple(x for x in range(7) if x not in club) for club in SEVEN[1])))

# Two clubs of which one lies within the other, and two that are apart.
NESTED = (5, ((0, 1), (0, 1, 2), (0, 1, 2, 3), (3, 4)))


def numbers_in_common(town):
    return {len(set(one) & set(other)) for one, other in itertools.combinations(town[1], 2)}


class SharesTests(TownTestCase):

    def test_ordinary_towns(self):
        for town, numbers in [
            ((4, ((0, 1), (0, 2), (2, 3))), (0, 1)), (TRIANGLE, (1,)), (SEVEN, (1,)), (OUTSIDE_SEVEN, (2,)),
            (NESTED, (0, 1, 2, 3)), ((4, ((0, 1), (2, 3))), (0,)), ((5, ((0, 1, 2, 3), (1, 2, 3, 4))), (3,)),
            (affine_plane(3), (0, 1)), (pencil_around(6, 2), (1,)), (every_pair_town(4), (0, 1)),
        ]:
            with self.subTest(town):
                self.assertEqual(shares(town), numbers)

    def test_no_two_clubs(self):
        for town in [(3, ()), (31, ()), (3, ((0, 1),)), (31, (tuple(range(30)),))]:
            with self.subTest(town):
                self.assertEqual(shares(town), ())

    def test_thirty_one_people(self):
        self.assertEqual(shares(every_pair_town(31)), (0, 1))
        self.assertEqual(shares(projective_plane(5)), (1,))
        self.assertEqual(shares((31, (tuple(range(30)), tuple(range(1, 31))))), (29,))

    def test_all_towns_of_few_people(self):
        for people in (3, 4):
            for town in all_towns(people):
                self.assertEqual(shares(town), tuple(sorted(numbers_in_common(town))))

    def test_kind_of_value(self):
        self.check_tuple_of({int}, shares(NESTED))
        self.assertIs(type(shares((3, ()))), tuple)


class EvenlySharedTests(TownTestCase):

    def test_the_same_number_above_zero(self):
        for town in [
            TRIANGLE, SEVEN, OUTSIDE_SEVEN, projective_plane(3), projective_plane(5), pencil_around(4, 3),
            pencil_around(31, 0), (5, ((0, 1, 2, 3), (1, 2, 3, 4))), (31, (tuple(range(30)), tuple(range(1, 31)))),
        ]:
            with self.subTest(town):
                self.assertIs(is_evenly_shared(town), True)

    def test_no_two_clubs(self):
        for town in [(3, ()), (31, ()), (3, ((0, 1),)), (31, (tuple(range(1, 31)),))]:
            with self.subTest(town):
                self.assertIs(is_evenly_shared(town), True)

    def test_none_in_common(self):
        self.assertIs(is_evenly_shared((4, ((0, 1), (2, 3)))), False)
        self.assertIs(is_evenly_shared((6, ((0, 1), (2, 3), (4, 5)))), False)

    def test_several_numbers(self):
        for town in [
            NESTED, (4, ((0, 1), (0, 2), (2, 3))), (4, ((0, 1, 2), (0, 1, 3), (2, 3))), affine_plane(3),
            every_pair_town(31),
        ]:
            with self.subTest(town):
                self.assertIs(is_evenly_shared(town), False)

    def test_all_towns_of_few_people(self):
        for people in (3, 4):
            for town in all_towns(people):
                numbers = numbers_in_common(town)
                even = len(town[1]) < 2 or (len(numbers) == 1 and numbers != {0})
                self.assertIs(is_evenly_shared(town), even)

    def test_then_at_most_as_many_clubs_as_people(self):
        for town in all_towns(4):
            if is_evenly_shared(town):
                self.assertLessEqual(len(town[1]), 4)


class TurnedTests(TownTestCase):

    def test_ordinary_towns(self):
        self.assertEqual(turned(TRIANGLE), TRIANGLE)
        self.assertEqual(
            turned((4, ((0, 1, 2), (0, 3), (1, 3), (2, 3)))), (4, ((0, 1), (0, 2), (0, 3), (1, 2, 3)))
        )
        self.assertEqual(turned((4, ((0, 1), (0, 2), (1, 3), (2, 3)))), (4, ((0, 1), (0, 2), (1, 3), (2, 3))))
        self.assertEqual(turned(every_pair_town(4)), (6, ((0, 1, 2), (0, 3, 4), (1, 3, 5), (2, 4, 5))))

    def test_people_are_numbered_in_the_order_of_the_clubs(self):
        # The clubs of persons 0, 1, 2, 3 are here the first, third, fourth and second one.
        town = (4, ((0, 1, 3), (0, 2, 3), (1, 2), (1, 2, 3)))
        self.assertEqual(turned(town), (4, ((0, 1), (0, 1, 3), (0, 2, 3), (1, 2, 3))))

    def test_planes(self):
        for prime in (2, 3, 5):
            people, clubs = projective_plane(prime)
            value = turned((people, clubs))
            numbers = [tuple(at for at, club in enumerate(clubs) if x in club) for x in range(people)]
            self.assertEqual(value, (people, tuple(sorted(numbers))))

    def test_two_people_in_the_same_clubs(self):
        self.assertIsNone(turned((5, ((0, 1, 2), (0, 1, 3), (2, 3, 4), (3, 4)))))
        self.assertIsNone(turned((4, ((0, 1, 2), (0, 1, 3), (2, 3)))))
        # No other reason: person 4 is like person 3, and without it there is a town.
        self.assertIsNone(turned((5, ((0, 1, 2), (0, 3, 4), (1, 3, 4), (2, 3, 4)))))
        self.assertIsNotNone(turned((4, ((0, 1, 2), (0, 3), (1, 3), (2, 3)))))

    def test_too_few_clubs(self):
        for clubs in [(), ((0, 1),), ((0, 1), (0, 2)), ((0, 1), (1, 2))]:
            with self.subTest(clubs):
                self.assertIsNone(turned((3, clubs)))
        self.assertIsNone(turned((31, ())))

    def test_thirty_one_clubs_and_more(self):
        # Here everyone is in two clubs or more and not in all, so it is only the number of clubs that counts.
        pairs = every_pair_town(9)[1]
        self.assertEqual(turned((9, pairs[:31]))[0], 31)
        for many in range(32, 37):
            self.assertIsNone(turned((9, pairs[:many])))
        self.assertIsNone(turned(every_pair_town(31)))
        self.assertEqual(turned(pencil_around(31, 30))[0], 31)

    def test_someone_in_fewer_than_two_clubs(self):
        self.assertIsNone(turned((5, ((0, 1, 2), (0, 3), (1, 3), (2, 3)))))
        self.assertIsNone(turned((5, ((0, 1, 2), (0, 3), (1, 3), (2, 3, 4)))))
        self.assertIsNotNone(turned((5, ((0, 1, 2), (0, 3), (1, 3, 4), (2, 3, 4), (3, 4)))))

    def test_someone_in_all_clubs(self):
        self.assertIsNone(turned((4, ((0, 1, 2), (0, 1, 3), (0, 2, 3)))))
        self.assertIsNotNone(turned((4, ((0, 1, 2), (0, 1, 3), (0, 2, 3), (1, 2)))))

    def test_all_towns_of_few_people(self):
        for people in (3, 4):
            for town in all_towns(people):
                clubs = town[1]
                numbers = [frozenset(at for at, club in enumerate(clubs) if x in club) for x in range(people)]
                if (
                    3 <= len(clubs) <= 31 and len(set(numbers)) == people
                    and all(2 <= len(club) < len(clubs) for club in numbers)
                ):
                    self.assertEqual(turned(town), (len(clubs), tuple(sorted(tuple(sorted(c)) for c in numbers))))
                else:
                    self.assertIsNone(turned(town))

    def test_turned_pair_towns_share_one_person(self):
        # Any two people of a pair town are in just one club, so any two clubs of the turned town have one in common.
        for people in (3, 4, 5, 6):
            for town in all_pair_towns(people):
                value = turned(town)
                with self.subTest(town):
                    self.assertEqual(value[0], len(town[1]))
                    self.assertEqual(shares(value), (1,))

    def test_kind_of_value(self):
        self.check_town_of_tuples(turned(SEVEN))


class WrongTownTests(TownTestCase):

    def test_no_towns(self):
        for function in FUNCTIONS:
            self.check_wrong_towns(function)

    def test_arguments_are_not_modified(self):
        for value in [SEVEN, NESTED, (3, ()), [3, [[1, 0]]], (3, [(1, 0)]), (3, ([1, 0],)), {3: [2, 1]}, [2, 1]]:
            for function in FUNCTIONS:
                self.check_unmodified(function, value)


class ExampleTests(TownTestCase):

    def test_example(self):
        three = (3, ((0, 1), (0, 2), (1, 2)))
        self.assertEqual(
            [shares((4, ((0, 1), (0, 2), (2, 3)))), is_evenly_shared(three), turned(three), turned((3, ((0, 1),)))],
            [(0, 1), True, (3, ((0, 1), (0, 2), (1, 2))), None],
        )


if __name__ == "__main__":
    unittest.main()
