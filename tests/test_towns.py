"""Points 1 and 2: what a town is, members, clubs_of, together."""

import copy
import itertools
import unittest

from pairclubs.errors import BadPerson, BadTown
from pairclubs.towns import clubs_of, is_town, members, together
from wrong_values import WRONG_PERSONS_OF_FIVE, WRONG_TOWNS

TOWN = (5, ((0, 1, 2), (0, 3, 4)))
RICH = (5, ((0, 1), (0, 1, 2), (0, 1, 2, 3), (0, 2), (1, 2, 3, 4), (3, 4)))


class IsTownTests(unittest.TestCase):

    def test_ordinary_towns(self):
        for town in (TOWN, RICH, (4, ((0, 1, 2), (0, 3), (1, 3), (2, 3)))):
            with self.subTest(town):
                self.assertIs(is_town(town), True)

    def test_three_to_thirty_one_people(self):
        for people in range(-2, 40):
            with self.subTest(people):
                self.assertIs(is_town((people, ())), 3 <= people <= 31)

    def test_no_clubs(self):
        self.assertIs(is_town((3, ())), True)
        self.assertIs(is_town((31, ())), True)
        self.assertIs(is_town((3, [])), False)

    def test_club_sizes(self):
        for people in (3, 4, 7, 31):
            for size in range(people + 1):
                with self.subTest(people=people, size=size):
                    first = tuple(range(size))
                    self.assertIs(is_town((people, (first,))), 2 <= size < people)
                    last = tuple(range(people - size, people))
                    self.assertIs(is_town((people, (last,))), 2 <= size < people)

    def test_all_clubs_at_once(self):
        clubs = tuple(sorted(c for size in (2, 3) for c in itertools.combinations(range(4), size)))
        self.assertIs(is_town((4, clubs)), True)
        every_pair = tuple(itertools.combinations(range(31), 2))
        self.assertIs(is_town((31, every_pair)), True)

    def test_every_order_of_clubs_but_one_is_wrong(self):
        right = ((0, 1), (0, 1, 2), (0, 2), (1, 2))
        for clubs in itertools.permutations(right):
            with self.subTest(clubs):
                self.assertIs(is_town((4, clubs)), clubs == right)

    def test_every_order_of_members_but_one_is_wrong(self):
        for club in itertools.product(range(-1, 5), repeat=3):
            with self.subTest(club):
                self.assertIs(is_town((4, (club,))), -1 < club[0] < club[1] < club[2] < 4)

    def test_clubs_twice(self):
        self.assertIs(is_town((3, ((0, 1), (0, 1)))), False)
        self.assertIs(is_town((3, ((0, 1), (0, 2), (0, 2)))), False)

    def test_wrong_values(self):
        for value, part in WRONG_TOWNS:
            with self.subTest(value=value, part=part):
                self.assertIs(is_town(value), False)

    def test_true_and_false_are_no_integers(self):
        self.assertIs(is_town((True, ())), False)
        self.assertIs(is_town((3, ((0, True),))), False)
        self.assertIs(is_town((3, ((False, 1),))), False)
        self.assertIs(is_town((3, ((0, 1),))), True)

    def test_example(self):
        self.assertIs(is_town((3, ((0, 1, 2),))), False)


class BadTownTests(unittest.TestCase):

    def check(self, function, *others):
        for value, part in WRONG_TOWNS:
            with self.subTest(value=value, part=part):
                with self.assertRaises(BadTown) as caught:
                    function(value, *others)
                self.assertIs(type(caught.exception), BadTown)
                self.assertEqual(caught.exception.part, part)

    def test_members(self):
        self.check(members)

    def test_clubs_of(self):
        self.check(clubs_of, 0)

    def test_together(self):
        self.check(together, 0, 1)

    def test_the_first_word_is_told(self):
        for value, part in [
            ((2, 5), "people"), ((None, None), "people"), ((True, ((1, 0),)), "people"),
            (("3", ()), "people"), ((32, ((0, 40), 1)), "people"), ([2, 5], "whole"), ((2, 5, ()), "whole"),
            ((2,), "whole"), ((3, 5), "clubs"),
        ]:
            with self.subTest(value):
                with self.assertRaises(BadTown) as caught:
                    members(value)
                self.assertEqual(caught.exception.part, part)

    def test_the_leftmost_argument_is_told(self):
        for person in WRONG_PERSONS_OF_FIVE:
            self.check(clubs_of, person)
            self.check(together, person, person)
        self.check(together, 0, 0)
        self.check(together, 0, None)
        self.check(together, None, 0)


class MembersTests(unittest.TestCase):

    def test_ordinary_towns(self):
        self.assertEqual(members(TOWN), (2, 1, 1, 1, 1))
        self.assertEqual(members(RICH), (4, 4, 4, 3, 2))
        self.assertEqual(members((4, ((0, 1), (0, 2), (0, 3)))), (3, 1, 1, 1))

    def test_no_clubs(self):
        self.assertEqual(members((3, ())), (0, 0, 0))
        self.assertEqual(members((31, ())), (0,) * 31)

    def test_thirty_one_people(self):
        self.assertEqual(members((31, tuple(itertools.combinations(range(31), 2)))), (30,) * 31)
        self.assertEqual(members((31, (tuple(range(1, 31)),))), (0,) + (1,) * 30)

    def test_kind_of_value(self):
        self.assertIs(type(members(TOWN)), tuple)
        self.assertEqual({type(many) for many in members(RICH)}, {int})


class ClubsOfTests(unittest.TestCase):

    def test_ordinary_towns(self):
        self.assertEqual(clubs_of(TOWN, 0), ((0, 1, 2), (0, 3, 4)))
        self.assertEqual(clubs_of(TOWN, 1), ((0, 1, 2),))
        self.assertEqual(clubs_of(TOWN, 4), ((0, 3, 4),))
        self.assertEqual(clubs_of(RICH, 2), ((0, 1, 2), (0, 1, 2, 3), (0, 2), (1, 2, 3, 4)))
        self.assertEqual(clubs_of(RICH, 4), ((1, 2, 3, 4), (3, 4)))

    def test_no_clubs(self):
        self.assertEqual(clubs_of((3, ()), 2), ())
        self.assertEqual(clubs_of((4, ((0, 1, 2),)), 3), ())
        self.assertEqual(clubs_of((31, ((0, 30),)), 30), ((0, 30),))

    def test_wrong_persons(self):
        for person in WRONG_PERSONS_OF_FIVE:
            for town in (TOWN, RICH, (5, ())):
                with self.subTest(person=person, town=town):
                    with self.assertRaises(BadPerson) as caught:
                        clubs_of(town, person)
                    self.assertIs(type(caught.exception), BadPerson)

    def test_last_person(self):
        for people in (3, 31):
            self.assertEqual(clubs_of((people, ()), people - 1), ())
            with self.assertRaises(BadPerson):
                clubs_of((people, ()), people)


class TogetherTests(unittest.TestCase):

    def test_ordinary_towns(self):
        self.assertEqual(together(TOWN, 2, 1), ((0, 1, 2),))
        self.assertEqual(together(TOWN, 1, 2), ((0, 1, 2),))
        self.assertEqual(together(TOWN, 1, 3), ())
        self.assertEqual(together(RICH, 0, 1), ((0, 1), (0, 1, 2), (0, 1, 2, 3)))
        self.assertEqual(together(RICH, 4, 3), ((1, 2, 3, 4), (3, 4)))

    def test_no_clubs(self):
        self.assertEqual(together((3, ()), 0, 2), ())
        self.assertEqual(together((31, ()), 30, 0), ())

    def test_wrong_first_person(self):
        for person in WRONG_PERSONS_OF_FIVE:
            with self.subTest(person):
                with self.assertRaises(BadPerson):
                    together(TOWN, person, 2)

    def test_wrong_second_person(self):
        for person in WRONG_PERSONS_OF_FIVE:
            with self.subTest(person):
                with self.assertRaises(BadPerson):
                    together(TOWN, 2, person)

    def test_both_wrong(self):
        for one, other in itertools.product(WRONG_PERSONS_OF_FIVE, repeat=2):
            with self.subTest(one=one, other=other):
                with self.assertRaises(BadPerson):
                    together(TOWN, one, other)

    def test_the_same_person_twice(self):
        for person in range(5):
            with self.subTest(person):
                with self.assertRaises(BadPerson):
                    together(TOWN, person, person)

    def test_true_is_not_one(self):
        with self.assertRaises(BadPerson):
            together(TOWN, 2, True)
        with self.assertRaises(BadPerson):
            together(TOWN, False, 2)


class ArgumentTests(unittest.TestCase):

    def test_arguments_are_not_modified(self):
        calls = [(is_town, ()), (members, ()), (clubs_of, (1,)), (together, (1, 2))]
        values = [TOWN, RICH, [3, [[0, 1]]], (3, [(1, 0)]), (3, ([1, 0],)), {3: [2, 1]}, [2, 1]]
        for value in values:
            for function, others in calls:
                with self.subTest(function=function.__name__, value=value):
                    ahead = copy.deepcopy(value)
                    try:
                        function(value, *others)
                    except BadTown:
                        pass
                    self.assertEqual(value, ahead)

    def test_persons_are_not_modified(self):
        person = [3, 1]
        with self.assertRaises(BadPerson):
            clubs_of(TOWN, person)
        with self.assertRaises(BadPerson):
            together(TOWN, 0, person)
        self.assertEqual(person, [3, 1])

    def test_equal_arguments_have_equal_answers(self):
        for _ in range(2):
            again = copy.deepcopy(RICH)
            self.assertEqual(members(again), (4, 4, 4, 3, 2))
            self.assertEqual(clubs_of(again, 4), ((1, 2, 3, 4), (3, 4)))
            self.assertEqual(together(again, 0, 2), ((0, 1, 2), (0, 1, 2, 3), (0, 2)))


class ExampleTests(unittest.TestCase):

    def test_first_example(self):
        town = (5, ((0, 1, 2), (0, 3, 4)))
        told = [
            members(town), clubs_of(town, 1), together(town, 2, 1), together(town, 1, 3), is_town((3, ((0, 1, 2),))),
        ]
        self.assertEqual(told, [(2, 1, 1, 1, 1), ((0, 1, 2),), ((0, 1, 2),), (), False])

    def test_second_example(self):
        with self.assertRaises(BadPerson) as caught:
            together((3, ()), 1, 1)
        self.assertEqual(vars(caught.exception), {})


if __name__ == "__main__":
    unittest.main()
