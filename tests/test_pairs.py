"""Points 1 and 3: missing, doubled, is_pair_town."""

import copy
import itertools
import unittest

from pairclubs.errors import BadTown
from pairclubs.pairs import doubled, is_pair_town, missing
from wrong_values import WRONG_TOWNS

EVERY_PAIR_OF_31 = tuple(itertools.combinations(range(31), 2))
SEVEN = (7, ((0, 1, 2), (0, 3, 4), (0, 5, 6), (1, 3, 5), (1, 4, 6), (2, 3, 6), (2, 4, 5)))


def towns_of_four():
    clubs = sorted(c for size in (2, 3) for c in itertools.combinations(range(4), size))
    for many in range(len(clubs) + 1):
        for chosen in itertools.combinations(clubs, many):
            yield (4, chosen)


def times_together(town, pair):
    return len([club for club in town[1] if set(pair) <= set(club)])


class MissingTests(unittest.TestCase):

    def test_ordinary_towns(self):
        self.assertEqual(missing((4, ((0, 1, 2),))), ((0, 3), (1, 3), (2, 3)))
        self.assertEqual(missing((4, ((0, 1), (2, 3)))), ((0, 2), (0, 3), (1, 2), (1, 3)))
        self.assertEqual(missing((5, ((0, 1, 2), (0, 3, 4)))), ((1, 3), (1, 4), (2, 3), (2, 4)))

    def test_no_clubs(self):
        self.assertEqual(missing((3, ())), ((0, 1), (0, 2), (1, 2)))
        self.assertEqual(missing((31, ())), EVERY_PAIR_OF_31)

    def test_a_club_of_all_but_one(self):
        self.assertEqual(missing((31, (tuple(range(30)),))), tuple((x, 30) for x in range(30)))
        self.assertEqual(missing((31, (tuple(range(1, 31)),))), tuple((0, x) for x in range(1, 31)))

    def test_none(self):
        self.assertEqual(missing(SEVEN), ())
        self.assertEqual(missing((31, EVERY_PAIR_OF_31)), ())
        self.assertEqual(missing((4, ((0, 1, 2), (0, 1, 3), (2, 3)))), ())


class DoubledTests(unittest.TestCase):

    def test_ordinary_towns(self):
        self.assertEqual(doubled((4, ((0, 1, 2), (0, 1, 3)))), ((0, 1),))
        self.assertEqual(doubled((4, ((0, 1), (0, 1, 2), (0, 1, 3), (1, 2)))), ((0, 1), (1, 2)))
        self.assertEqual(doubled((5, ((0, 1, 2, 3), (1, 2, 3, 4)))), ((1, 2), (1, 3), (2, 3)))

    def test_three_times_counts_once(self):
        self.assertEqual(doubled((5, ((0, 1), (0, 1, 2), (0, 1, 3)))), ((0, 1),))

    def test_none(self):
        self.assertEqual(doubled((3, ())), ())
        self.assertEqual(doubled((31, ())), ())
        self.assertEqual(doubled(SEVEN), ())
        self.assertEqual(doubled((31, EVERY_PAIR_OF_31)), ())

    def test_thirty_one_people(self):
        clubs = tuple(sorted(EVERY_PAIR_OF_31 + (tuple(range(30)),)))
        self.assertEqual(doubled((31, clubs)), tuple(itertools.combinations(range(30), 2)))


class PairTownTests(unittest.TestCase):

    def test_pair_towns(self):
        for town in [
            (3, ((0, 1), (0, 2), (1, 2))), (4, ((0, 1, 2), (0, 3), (1, 3), (2, 3))), SEVEN,
            (31, EVERY_PAIR_OF_31), (31, (tuple(range(30)),) + tuple((x, 30) for x in range(30))),
        ]:
            with self.subTest(town):
                self.assertIs(is_pair_town(town), True)

    def test_a_missing_pair(self):
        for town in [(3, ()), (31, ()), (3, ((0, 1), (0, 2))), (31, EVERY_PAIR_OF_31[:-1]), (7, SEVEN[1][:-1])]:
            with self.subTest(town):
                self.assertIs(is_pair_town(town), False)

    def test_a_doubled_pair(self):
        for town in [(4, ((0, 1, 2), (0, 1, 3), (2, 3))), (7, ((0, 1),) + SEVEN[1])]:
            with self.subTest(town):
                self.assertEqual(missing(town), ())
                self.assertIs(is_pair_town(town), False)

    def test_as_many_doubled_as_missing(self):
        self.assertIs(is_pair_town((4, ((0, 1, 2), (0, 1, 3)))), False)

    def test_how_many_of_four_people(self):
        self.assertEqual(len([town for town in towns_of_four() if is_pair_town(town)]), 5)


class AllTownsOfFourTests(unittest.TestCase):

    def test_against_counting_for_each_pair(self):
        for town in towns_of_four():
            many = {pair: times_together(town, pair) for pair in itertools.combinations(range(4), 2)}
            self.assertEqual(missing(town), tuple(pair for pair in sorted(many) if many[pair] == 0))
            self.assertEqual(doubled(town), tuple(pair for pair in sorted(many) if many[pair] >= 2))
            self.assertIs(is_pair_town(town), set(many.values()) == {1})


class WrongTownTests(unittest.TestCase):

    def test_wrong_towns(self):
        for function in (missing, doubled, is_pair_town):
            for value, part in WRONG_TOWNS:
                with self.subTest(function=function.__name__, value=value, part=part):
                    with self.assertRaises(BadTown) as caught:
                        function(value)
                    self.assertIs(type(caught.exception), BadTown)
                    self.assertEqual(caught.exception.part, part)

    def test_arguments_are_not_modified(self):
        for value in [SEVEN, [3, [[1, 0]]], (3, [(1, 0)]), (3, ([1, 0],)), {3: [2, 1]}, [2, 1]]:
            for function in (missing, doubled, is_pair_town):
                with self.subTest(function=function.__name__, value=value):
                    ahead = copy.deepcopy(value)
                    try:
                        function(value)
                    except BadTown:
                        pass
                    self.assertEqual(value, ahead)

    def test_kind_of_value(self):
        for function in (missing, doubled):
            told = function((4, ((0, 1), (0, 1, 2))))
            self.assertIs(type(told), tuple)
            self.assertEqual({type(pair) for pair in told}, {tuple})


class ExampleTests(unittest.TestCase):

    def test_first_example(self):
        told = [
            missing((4, ((0, 1, 2),))), doubled((4, ((0, 1, 2), (0, 1, 3)))),
            is_pair_town((3, ((0, 1), (0, 2), (1, 2)))),
        ]
        self.assertEqual(told, [((0, 3), (1, 3), (2, 3)), ((0, 1),), True])

    def test_second_example(self):
        with self.assertRaises(BadTown) as caught:
            missing((2, ()))
        self.assertEqual(vars(caught.exception), {"part": "people"})


if __name__ == "__main__":
    unittest.main()
