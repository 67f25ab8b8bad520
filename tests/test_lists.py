"""Points 1 and 7: pair_towns, counts_by_clubs."""

import itertools
import unittest

from checking import TownTestCase
from pairclubs.errors import BadNumber
from pairclubs.lists import counts_by_clubs, pair_towns
from town_lists import TRIANGLE, all_pair_towns, all_towns, every_pair_town, pencil_around, times_together
from wrong_values import NO_INTEGERS

FUNCTIONS = (pair_towns, counts_by_clubs)

COUNTS = {
    3: ((3, 1),),
    4: ((4, 4), (6, 1)),
    5: ((5, 5), (6, 15), (8, 10), (10, 1)),
    # Behind each other: a club of 5; four of 3; one of 4 and one of 3; three of 3; one of 4; two of 3, with a person
    # in common (90) or apart (10); one of 3; pairs alone.
    6: ((6, 6), (7, 30), (8, 60), (9, 120), (10, 15), (11, 100), (13, 20), (15, 1)),
}


class PairTownsTests(TownTestCase):

    def test_three_people(self):
        self.assertEqual(pair_towns(3), (TRIANGLE,))

    def test_four_people(self):
        self.assertEqual(pair_towns(4), (
            (4, ((0, 1), (0, 2), (0, 3), (1, 2), (1, 3), (2, 3))),
            (4, ((0, 1), (0, 2), (0, 3), (1, 2, 3))),
            (4, ((0, 1), (0, 2, 3), (1, 2), (1, 3))),
            (4, ((0, 1, 2), (0, 3), (1, 3), (2, 3))),
            (4, ((0, 1, 3), (0, 2), (1, 2), (2, 3))),
        ))

    def test_all_of_four_people_and_no_other_town(self):
        listed = pair_towns(4)
        for town in all_towns(4):
            right = all(times_together(town, pair) == 1 for pair in itertools.combinations(range(4), 2))
            self.assertEqual(town in listed, right)

    def test_all_of_few_people_ascending(self):
        for people in (3, 4, 5, 6):
            with self.subTest(people):
                self.assertEqual(pair_towns(people), tuple(sorted(all_pair_towns(people))))

    def test_how_many(self):
        self.assertEqual([len(pair_towns(people)) for people in (3, 4, 5, 6)], [1, 5, 31, 352])

    def test_some_of_six_people(self):
        listed = pair_towns(6)
        self.assertIn(every_pair_town(6), listed)
        for person in range(6):
            self.assertIn(pencil_around(6, person), listed)
        for absent in [(6, ()), (6, ((0, 1, 2, 3, 4, 5),)), pencil_around(5, 0), every_pair_town(7)]:
            self.assertNotIn(absent, listed)

    def test_kind_of_value(self):
        for people in (3, 4, 5, 6):
            towns = pair_towns(people)
            self.check_tuple_of({tuple}, towns)
            for town in towns:
                self.check_town_of_tuples(town)
                self.assertEqual(town[0], people)

    def test_equal_arguments_have_equal_answers(self):
        self.assertEqual(pair_towns(5), pair_towns(5))


class CountsByClubsTests(TownTestCase):

    def test_each_number_of_people(self):
        for people, counts in COUNTS.items():
            with self.subTest(people):
                self.assertEqual(counts_by_clubs(people), counts)

    def test_against_the_listed_towns(self):
        for people in (3, 4, 5, 6):
            numbers = [len(clubs) for _, clubs in all_pair_towns(people)]
            counts = tuple((many, numbers.count(many)) for many in sorted(set(numbers)))
            self.assertEqual(counts_by_clubs(people), counts)

    def test_the_fewest_clubs_are_those_of_the_pencils(self):
        for people in (3, 4, 5, 6):
            self.assertEqual(counts_by_clubs(people)[0], (people, 1 if people == 3 else people))

    def test_kind_of_value(self):
        for people in (3, 6):
            self.check_tuple_of({tuple}, counts_by_clubs(people))
            for pair in counts_by_clubs(people):
                self.check_tuple_of({int}, pair)
                self.assertEqual(len(pair), 2)


class WrongNumberTests(TownTestCase):

    def test_too_few_and_too_many(self):
        for function in FUNCTIONS:
            for people in (2, 7, 1, 0, -1, -3, 8, 31, 10 ** 30, -(10 ** 30)):
                self.check_raises(BadNumber, {}, function, people)

    def test_no_integers(self):
        for function in FUNCTIONS:
            for value in NO_INTEGERS:
                self.check_raises(BadNumber, {}, function, value)

    def test_arguments_are_not_modified(self):
        for function in FUNCTIONS:
            for value in ([3], {3: [4]}, (3, [4]), 3, 7):
                self.check_unmodified(function, value)


class ExampleTests(TownTestCase):

    def test_first_example(self):
        self.assertEqual([pair_towns(3), counts_by_clubs(4), counts_by_clubs(5)], [
            ((3, ((0, 1), (0, 2), (1, 2))),), ((4, 4), (6, 1)), ((5, 5), (6, 15), (8, 10), (10, 1)),
        ])

    def test_second_example(self):
        self.check_raises(BadNumber, {}, pair_towns, 7)


if __name__ == "__main__":
    unittest.main()
