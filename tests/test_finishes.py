"""Points 1 and 5: can_add, finished, least_finished, shows_least_finished."""

import itertools
import unittest

from checking import TownTestCase
from pairclubs.errors import BadClub, BadNumber, Doubled
from pairclubs.finishes import can_add, finished, least_finished, shows_least_finished
from pairclubs.pairs import is_pair_town
from town_lists import (
    SEVEN, TRIANGLE, all_clubs, all_pair_towns, all_towns, begun_towns, every_pair_town, pencil_around,
    projective_plane, times_together,
)
from wrong_values import WRONG_CLUBS_OF_FIVE, WRONG_TOWNS

BEGUN = (5, ((0, 1, 2), (0, 3, 4)))

# The least town with all of its clubs: not a pencil, so one club more than people.
BEGUN_FINISHED = (5, ((0, 1, 2), (0, 3, 4), (1, 3), (1, 4), (2, 3), (2, 4)))

DOUBLED = [
    (4, ((0, 1, 2), (0, 1, 3))), (4, ((0, 1), (0, 1, 2))), (4, ((0, 1, 2), (0, 1, 3), (2, 3))),
    (5, ((0, 1, 2, 3), (1, 2, 3, 4))), (6, ((0, 1), (0, 1, 2), (0, 1, 3))),
]
DOUBLED_OF_MANY = [
    (7, ((0, 1),) + SEVEN[1]), (31, ((0, 1, 2), (0, 1, 3))), (31, (tuple(range(30)), tuple(range(1, 31)))),
]
OF_MANY = [(7, ()), SEVEN, (8, ((0, 1),)), (31, ()), every_pair_town(31), projective_plane(5)]

LAST_VALUES = [value for value, part in WRONG_TOWNS] + WRONG_CLUBS_OF_FIVE

# One of 97 of the towns begun of six people.
SOME_OF_SIX = [town for at, town in enumerate(begun_towns(6)) if at % 97 == 0]


def is_begun(town):
    return all(times_together(town, pair) <= 1 for pair in itertools.combinations(range(town[0]), 2))


def holds(town, clubs):
    return set(town[1]) >= set(clubs)


class CanAddTests(TownTestCase):

    def test_ordinary_clubs(self):
        for club in [(1, 3), (1, 4), (2, 3), (2, 4)]:
            self.assertIs(can_add(BEGUN, club), True)
        for club in [(0, 1), (1, 2), (3, 4), (0, 1, 2), (0, 3, 4), (1, 2, 3), (1, 3, 4), (0, 1, 2, 3)]:
            self.assertIs(can_add(BEGUN, club), False)

    def test_one_pair_of_many(self):
        self.assertIs(can_add((6, ((3, 4),)), (0, 1, 2, 3, 4)), False)
        self.assertIs(can_add((6, ((3, 4),)), (0, 1, 2, 3, 5)), True)
        self.assertIs(can_add((31, ((28, 29),)), tuple(range(30))), False)
        self.assertIs(can_add((31, ((29, 30),)), tuple(range(30))), True)

    def test_no_clubs(self):
        for people in (3, 4, 5):
            for club in all_clubs(people):
                self.assertIs(can_add((people, ()), club), True)
        self.assertIs(can_add((31, ()), tuple(range(1, 31))), True)

    def test_a_pair_town(self):
        for people, clubs in (TRIANGLE, SEVEN, every_pair_town(31), pencil_around(31, 30)):
            for club in clubs:
                self.assertIs(can_add((people, clubs), club), False)

    def test_all_clubs_of_all_towns_begun_of_few_people(self):
        for people in (3, 4):
            for town in begun_towns(people):
                for club in all_clubs(people):
                    free = all(times_together(town, pair) == 0 for pair in itertools.combinations(club, 2))
                    self.assertIs(can_add(town, club), free)

    def test_no_clubs_of_the_people(self):
        for town in (BEGUN, (5, ()), BEGUN_FINISHED):
            for club in WRONG_CLUBS_OF_FIVE:
                self.check_raises(BadClub, {}, can_add, town, club)

    def test_clubs_of_all_people(self):
        for people in (3, 4, 5, 31):
            self.check_raises(BadClub, {}, can_add, (people, ()), tuple(range(people)))
            self.check_raises(BadClub, {}, can_add, (people, ()), (0, people))
            self.assertIs(can_add((people, ()), (0, people - 1)), True)

    def test_more_than_six_people_are_let(self):
        self.assertIs(can_add((7, SEVEN[1][:-1]), SEVEN[1][-1]), True)
        self.assertIs(can_add((7, SEVEN[1][:-1]), (2, 4, 6)), False)


class FinishedTests(TownTestCase):

    def test_ordinary_towns(self):
        self.assertEqual(finished(BEGUN), BEGUN_FINISHED)
        self.assertEqual(finished((4, ((1, 2, 3),))), (4, ((0, 1), (0, 2), (0, 3), (1, 2, 3))))
        self.assertEqual(finished((4, ((2, 3),))), every_pair_town(4))

    def test_no_clubs(self):
        for people in range(3, 32):
            self.assertEqual(finished((people, ())), every_pair_town(people))

    def test_pair_towns_stay(self):
        for town in (TRIANGLE, SEVEN, every_pair_town(31), pencil_around(31, 4), projective_plane(5)):
            self.assertEqual(finished(town), town)

    def test_thirty_one_people(self):
        for person in (0, 15, 30):
            town = pencil_around(31, person)
            self.assertEqual(finished((31, tuple(club for club in town[1] if len(club) == 30))), town)

    def test_all_towns_begun_of_few_people(self):
        for people in (3, 4, 5):
            for town in begun_towns(people):
                apart = {
                    pair for pair in itertools.combinations(range(people), 2) if times_together(town, pair) == 0
                }
                value = finished(town)
                self.assertEqual(value, (people, tuple(sorted(apart | set(town[1])))))
                self.assertIs(is_pair_town(value), True)

    def test_kind_of_value(self):
        self.check_town_of_tuples(finished(BEGUN))


class LeastFinishedTests(TownTestCase):

    def check_least(self, town, pair_towns):
        value = least_finished(town)
        fewest = min(len(other[1]) for other in pair_towns if holds(other, town[1]))
        self.assertIn(value, pair_towns)
        self.assertTrue(holds(value, town[1]))
        self.assertEqual(len(value[1]), fewest)

    def test_ordinary_towns(self):
        self.assertEqual(least_finished(BEGUN), BEGUN_FINISHED)
        self.assertEqual(least_finished((6, ((0, 1, 2, 3, 4),))), pencil_around(6, 5))
        self.assertEqual(least_finished((4, ((0, 1), (2, 3)))), every_pair_town(4))
        self.assertEqual(least_finished((6, ((0, 1), (2, 3))))[0], 6)

    def test_no_clubs(self):
        for people in (3, 4, 5, 6):
            self.assertEqual(len(least_finished((people, ()))[1]), people)

    def test_pair_towns_stay(self):
        for people in (3, 4, 5, 6):
            for town in all_pair_towns(people):
                self.assertEqual(least_finished(town), town)

    def test_all_towns_begun_of_few_people(self):
        for people in (3, 4, 5):
            pair_towns = all_pair_towns(people)
            for town in begun_towns(people):
                self.check_least(town, pair_towns)

    def test_six_people(self):
        pair_towns = all_pair_towns(6)
        for town in SOME_OF_SIX:
            self.check_least(town, pair_towns)

    def test_kind_of_value(self):
        self.check_town_of_tuples(least_finished((6, ((0, 1, 2),))))

    def test_equal_arguments_have_values_that_hold(self):
        for _ in range(2):
            self.assertIs(shows_least_finished((6, ()), least_finished((6, ()))), True)


class ShowsLeastFinishedTests(TownTestCase):

    def test_ordinary_values(self):
        town = (4, ())
        for person in range(4):
            self.assertIs(shows_least_finished(town, pencil_around(4, person)), True)
        self.assertIs(shows_least_finished(town, every_pair_town(4)), False)
        self.assertIs(shows_least_finished(BEGUN, BEGUN_FINISHED), True)

    def test_a_club_of_the_town_is_lacking(self):
        for person in range(4):
            self.assertIs(shows_least_finished((4, ((0, 1, 2),)), pencil_around(4, person)), person == 3)
            self.assertIs(shows_least_finished((4, ((0, 1),)), pencil_around(4, person)), person in (0, 1))

    def test_too_many_clubs(self):
        self.assertIs(shows_least_finished((5, ((0, 1, 2),)), BEGUN_FINISHED), True)
        self.assertIs(shows_least_finished((5, ((0, 1, 2),)), finished((5, ((0, 1, 2),)))), False)
        self.assertIs(shows_least_finished((6, ()), every_pair_town(6)), False)

    def test_no_pair_towns(self):
        # Each is a town of as many people with the clubs of the first one, and with four clubs or fewer.
        for value in [
            (4, ()), (4, ((0, 1, 2), (0, 3), (1, 3))), (4, ((0, 1, 2), (0, 1, 3), (2, 3))),
            (4, ((0, 1, 2), (0, 1, 3), (0, 2, 3), (1, 2, 3))),
        ]:
            self.assertIs(shows_least_finished((4, ()), value), False)

    def test_another_number_of_people(self):
        for people in (3, 4, 5, 6):
            for other in (3, 4, 5, 6, 7, 31):
                value = pencil_around(other, 0)
                self.assertIs(shows_least_finished((people, ()), value), people == other)
        # These values have all clubs of the town, and as many clubs as its least town.
        self.assertIs(shows_least_finished((6, ()), BEGUN_FINISHED), False)
        value = (5, ((0, 1), (0, 2, 4), (0, 3), (1, 2), (1, 3, 4), (2, 3)))
        self.assertIs(shows_least_finished((4, ((0, 1), (2, 3))), value), False)

    def test_all_pair_towns_for_all_towns_begun_of_few_people(self):
        for people in (3, 4):
            pair_towns = all_pair_towns(people)
            for town in begun_towns(people):
                fewest = min(len(other[1]) for other in pair_towns if holds(other, town[1]))
                for value in pair_towns:
                    right = holds(value, town[1]) and len(value[1]) == fewest
                    self.assertIs(shows_least_finished(town, value), right)

    def test_all_towns_of_four_as_values(self):
        for value in all_towns(4):
            right = value in [pencil_around(4, person) for person in range(4)]
            self.assertIs(shows_least_finished((4, ()), value), right)

    def test_shows_what_least_finished_returns(self):
        for people in (3, 4, 5):
            for town in begun_towns(people):
                self.assertIs(shows_least_finished(town, least_finished(town)), True)
        for town in SOME_OF_SIX[::10]:
            self.assertIs(shows_least_finished(town, least_finished(town)), True)

    def test_any_value_is_let(self):
        for town in ((3, ()), BEGUN, TRIANGLE, (6, ())):
            for value in LAST_VALUES:
                with self.subTest(town=town, value=value):
                    self.assertIs(shows_least_finished(town, value), False)

    def test_lists_and_booleans_do_not_stand_for_a_town(self):
        for value in [
            [3, ((0, 1), (0, 2), (1, 2))], (3, [(0, 1), (0, 2), (1, 2)]), (3, ([0, 1], (0, 2), (1, 2))),
            (3, ((False, True), (False, 2), (True, 2))), (3, ((0, True), (0, 2), (1, 2))),
            (3, ((0, 2), (0, 1), (1, 2))), (3, ((0, 1), (0, 2), (2, 1))), (3, ((0, 1), (0, 1), (0, 2), (1, 2))),
        ]:
            with self.subTest(value):
                self.assertIs(shows_least_finished((3, ()), value), False)
        self.assertIs(shows_least_finished((3, ()), TRIANGLE), True)


class WrongTownTests(TownTestCase):

    def test_no_towns(self):
        self.check_wrong_towns(finished)
        self.check_wrong_towns(least_finished)
        for other in (None, (0, 1), (1, 0), TRIANGLE):
            self.check_wrong_towns(can_add, other)
            self.check_wrong_towns(shows_least_finished, other)

    def test_doubled(self):
        for town in DOUBLED + DOUBLED_OF_MANY:
            self.check_raises(Doubled, {}, finished, town)
            self.check_raises(Doubled, {}, least_finished, town)
            for other in (None, True, (0, 1), (2, 3), (1, 0), [], town, TRIANGLE):
                self.check_raises(Doubled, {}, can_add, town, other)
                self.check_raises(Doubled, {}, shows_least_finished, town, other)

    def test_more_than_six_people(self):
        for town in OF_MANY:
            self.check_raises(BadNumber, {}, least_finished, town)
            for other in (None, True, town, TRIANGLE, [], {}):
                self.check_raises(BadNumber, {}, shows_least_finished, town, other)
        for people in range(3, 32):
            if people > 6:
                self.check_raises(BadNumber, {}, least_finished, (people, ()))
            else:
                self.assertEqual(least_finished((people, ()))[0], people)

    def test_all_towns_of_four(self):
        for town in all_towns(4):
            if not is_begun(town):
                for function, others in [
                    (can_add, ((0, 1),)), (finished, ()), (least_finished, ()), (shows_least_finished, (town,)),
                ]:
                    with self.assertRaises(Doubled):
                        function(town, *others)

    def test_arguments_are_not_modified(self):
        values = [BEGUN, SEVEN, (3, ()), DOUBLED[0], [3, [[1, 0]]], (3, [(1, 0)]), (3, ([1, 0],)), {3: [2, 1]}, [2, 1]]
        for town in values:
            self.check_unmodified(finished, town)
            self.check_unmodified(least_finished, town)
            for other in values + [(1, 3), [3, 1], {1: [3]}]:
                self.check_unmodified(can_add, town, other)
                self.check_unmodified(shows_least_finished, town, other)


class ExampleTests(TownTestCase):

    def test_first_example(self):
        town = (5, ((0, 1, 2), (0, 3, 4)))
        told = [
            can_add(town, (1, 3)), can_add(town, (1, 2)), finished(town),
            shows_least_finished((4, ()), (4, ((0, 1, 2), (0, 3), (1, 3), (2, 3)))),
        ]
        self.assertEqual(
            told, [True, False, (5, ((0, 1, 2), (0, 3, 4), (1, 3), (1, 4), (2, 3), (2, 4))), True]
        )

    def test_second_example(self):
        self.check_raises(Doubled, {}, finished, (4, ((0, 1, 2), (0, 1, 3))))


if __name__ == "__main__":
    unittest.main()
