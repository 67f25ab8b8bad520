"""Points 1 and 7: pencil, plane."""

import itertools
import unittest

from checking import TownTestCase
from pairclubs.errors import BadNumber
from pairclubs.planes import pencil, plane
from town_lists import SEVEN, TRIANGLE, pencil_around, projective_plane
from wrong_values import NO_INTEGERS

# The people of the plane of 3: the triples in their order, without the package.
TRIPLES_OF_3 = [
    (0, 0, 1), (0, 1, 0), (0, 1, 1), (0, 1, 2), (1, 0, 0), (1, 0, 1), (1, 0, 2), (1, 1, 0), (1, 1, 1), (1, 1, 2),
    (1, 2, 0), (1, 2, 1), (1, 2, 2),
]


class PencilTests(TownTestCase):

    def test_few_people(self):
        self.assertEqual(pencil(3), TRIANGLE)
        self.assertEqual(pencil(4), (4, ((0, 1, 2), (0, 3), (1, 3), (2, 3))))
        self.assertEqual(pencil(5), (5, ((0, 1, 2, 3), (0, 4), (1, 4), (2, 4), (3, 4))))

    def test_every_number_of_people(self):
        for people in range(3, 32):
            with self.subTest(people):
                self.assertEqual(pencil(people), pencil_around(people, people - 1))

    def test_thirty_one_people(self):
        self.assertEqual(pencil(31), (31, (tuple(range(30)),) + tuple((x, 30) for x in range(30))))

    def test_kind_of_value(self):
        for people in (3, 4, 31):
            self.check_town_of_tuples(pencil(people))

    def test_too_few_and_too_many(self):
        for people in (2, 32, 1, 0, -1, -3, 33, 10 ** 30, -(10 ** 30)):
            self.check_raises(BadNumber, {}, pencil, people)

    def test_no_integers(self):
        for value in NO_INTEGERS:
            self.check_raises(BadNumber, {}, pencil, value)


class PlaneTests(TownTestCase):

    def test_two(self):
        self.assertEqual(plane(2), SEVEN)

    def test_three(self):
        people, clubs = plane(3)
        self.assertEqual(people, 13)
        # (0, 0, 1): the triples with z = 0; (1, 2, 0): those for which 3 divides x + 2 y.
        self.assertIn(tuple(at for at, (x, y, z) in enumerate(TRIPLES_OF_3) if z == 0), clubs)
        self.assertIn((0, 7, 8, 9), clubs)
        self.assertEqual(clubs, (
            (0, 1, 2, 3), (0, 4, 5, 6), (0, 7, 8, 9), (0, 10, 11, 12), (1, 4, 7, 10), (1, 5, 8, 11), (1, 6, 9, 12),
            (2, 4, 8, 12), (2, 5, 9, 10), (2, 6, 7, 11), (3, 4, 9, 11), (3, 5, 7, 12), (3, 6, 8, 10),
        ))

    def test_five(self):
        people, clubs = plane(5)
        self.assertEqual((people, len(clubs)), (31, 31))
        self.assertEqual({len(club) for club in clubs}, {6})
        # The first triples are (0, 0, 1) and (0, 1, y); behind them come those with x = 1.
        self.assertEqual(clubs[0], (0, 1, 2, 3, 4, 5))
        self.assertEqual(clubs[1], (0, 6, 7, 8, 9, 10))
        self.assertEqual(clubs[6], (1, 6, 11, 16, 21, 26))

    def test_each_against_its_triples(self):
        for prime in (2, 3, 5):
            with self.subTest(prime):
                self.assertEqual(plane(prime), projective_plane(prime))

    def test_any_two_people_in_just_one_club_and_two_clubs_with_one_person(self):
        for prime, people in ((2, 7), (3, 13), (5, 31)):
            told, clubs = plane(prime)
            self.assertEqual(told, people)
            for pair in itertools.combinations(range(people), 2):
                self.assertEqual(sum(set(pair) <= set(club) for club in clubs), 1)
            for one, other in itertools.combinations(clubs, 2):
                self.assertEqual(len(set(one) & set(other)), 1)

    def test_kind_of_value(self):
        for prime in (2, 3, 5):
            self.check_town_of_tuples(plane(prime))

    def test_other_integers(self):
        for number in (4, 1, 0, -1, -2, -3, -5, 6, 7, 8, 9, 11, 25, 31, 10 ** 30, -(10 ** 30)):
            self.check_raises(BadNumber, {}, plane, number)

    def test_no_integers(self):
        for value in NO_INTEGERS + ["2", (2, 3, 5), (2,), [2], [5], {2: 3}]:
            self.check_raises(BadNumber, {}, plane, value)


class ArgumentTests(TownTestCase):

    def test_arguments_are_not_modified(self):
        for function in (pencil, plane):
            for value in ([3], {3: [4]}, (3, [4]), 3, 32):
                self.check_unmodified(function, value)

    def test_equal_arguments_have_equal_answers(self):
        self.assertEqual(pencil(9), pencil(9))
        self.assertEqual(plane(3), plane(3))


class ExampleTests(TownTestCase):

    def test_first_example(self):
        self.assertEqual([pencil(4), plane(2)], [
            (4, ((0, 1, 2), (0, 3), (1, 3), (2, 3))),
            (7, ((0, 1, 2), (0, 3, 4), (0, 5, 6), (1, 3, 5), (1, 4, 6), (2, 3, 6), (2, 4, 5))),
        ])

    def test_second_example(self):
        self.check_raises(BadNumber, {}, plane, 4)


if __name__ == "__main__":
    unittest.main()
