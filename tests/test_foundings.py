"""Points 1 and 8: Founding."""

import copy
import itertools
import unittest

from checking import TownTestCase
from pairclubs.errors import BadClub, BadNumber, NoClub, NoStep
from pairclubs.foundings import Founding
from town_lists import SEVEN, all_clubs, begun_towns, every_pair_town, pencil_around, projective_plane, times_together
from wrong_values import NO_INTEGERS, WRONG_CLUBS_OF_FIVE


def founded(people, *clubs):
    founding = Founding(people)
    for club in clubs:
        founding.add(club)
    return founding


def count_apart(town):
    return sum(times_together(town, pair) == 0 for pair in itertools.combinations(range(town[0]), 2))


class FoundingTestCase(TownTestCase):

    def check_state(self, founding, people, added):
        town = (people, tuple(sorted(added)))
        self.assertEqual(founding.town, town)
        self.assertEqual(founding.added, tuple(added))
        self.assertEqual(founding.missing(), count_apart(town))


class NewFoundingTests(FoundingTestCase):

    def test_without_clubs(self):
        for people in range(3, 32):
            with self.subTest(people):
                founding = Founding(people)
                self.assertEqual(founding.town, (people, ()))
                self.assertEqual(founding.added, ())
                self.assertEqual(founding.missing(), people * (people - 1) // 2)

    def test_too_few_and_too_many(self):
        for people in (2, 32, 1, 0, -1, -3, 33, 10 ** 30, -(10 ** 30)):
            self.check_raises(BadNumber, {}, Founding, people)

    def test_no_integers(self):
        for value in NO_INTEGERS:
            self.check_raises(BadNumber, {}, Founding, value)

    def test_by_keyword(self):
        self.assertEqual(Founding(people=4).town, (4, ()))

    def test_each_has_clubs_of_its_own(self):
        one, other = Founding(4), Founding(4)
        one.add((0, 1))
        self.check_state(one, 4, [(0, 1)])
        self.check_state(other, 4, [])


class AddTests(FoundingTestCase):

    def test_ordinary_clubs(self):
        founding = Founding(5)
        added = []
        for club in [(3, 4), (0, 1, 2), (1, 3), (0, 4), (2, 4)]:
            self.assertIsNone(founding.add(club))
            added.append(club)
            self.check_state(founding, 5, added)

    def test_the_town_is_ascending_and_added_as_they_came(self):
        founding = founded(4, (2, 3), (0, 1, 2), (0, 3))
        self.assertEqual(founding.town, (4, ((0, 1, 2), (0, 3), (2, 3))))
        self.assertEqual(founding.added, ((2, 3), (0, 1, 2), (0, 3)))

    def test_refused_clubs_change_nothing(self):
        founding = founded(5, (0, 3, 4), (0, 1, 2))
        for club in [
            (0, 1), (1, 2), (0, 3), (3, 4), (0, 1, 2), (0, 3, 4), (0, 1, 3), (1, 2, 3), (1, 3, 4), (0, 1, 2, 3),
        ]:
            self.check_raises(NoClub, {}, founding.add, club)
            self.check_state(founding, 5, [(0, 3, 4), (0, 1, 2)])

    def test_wrong_clubs_change_nothing(self):
        for founding in (Founding(5), founded(5, (0, 1)), founded(5, (3, 4), (0, 1, 2))):
            people, added = founding.town[0], list(founding.added)
            for club in WRONG_CLUBS_OF_FIVE:
                self.check_raises(BadClub, {}, founding.add, club)
                self.check_state(founding, people, added)

    def test_a_wrong_club_of_people_who_are_together_is_a_wrong_one(self):
        founding = founded(3, (0, 1), (0, 2), (1, 2))
        for club in [(1, 0), (0, 1, 2), [0, 1], (0, 1, 1), (0, True), (0, 3)]:
            self.check_raises(BadClub, {}, founding.add, club)

    def test_clubs_of_all_people_and_of_all_but_one(self):
        for people in (3, 4, 31):
            founding = Founding(people)
            self.check_raises(BadClub, {}, founding.add, tuple(range(people)))
            self.check_raises(BadClub, {}, founding.add, (0, people))
            founding.add(tuple(range(1, people)))
            self.check_state(founding, people, [tuple(range(1, people))])
            self.check_raises(NoClub, {}, founding.add, tuple(range(people - 1)) if people > 3 else (1, 2))

    def test_every_club_in_every_founding_of_four(self):
        for town in begun_towns(4):
            for club in all_clubs(4):
                founding = founded(4, *town[1])
                if any(times_together(town, pair) for pair in itertools.combinations(club, 2)):
                    self.check_raises(NoClub, {}, founding.add, club)
                    self.check_state(founding, 4, list(town[1]))
                else:
                    founding.add(club)
                    self.check_state(founding, 4, [*town[1], club])

    def test_till_nothing_is_missing(self):
        for people, clubs in (SEVEN, pencil_around(31, 7), projective_plane(5), every_pair_town(9)):
            founding = Founding(people)
            for club in reversed(clubs):
                self.assertGreater(founding.missing(), 0)
                founding.add(club)
            self.assertEqual(founding.missing(), 0)
            self.assertEqual(founding.town, (people, clubs))
            self.assertEqual(founding.added, clubs[::-1])
            self.check_raises(NoClub, {}, founding.add, (0, 1))


class UndoTests(FoundingTestCase):

    def test_takes_the_last_one_back(self):
        clubs = [(3, 4), (0, 1, 2), (1, 3), (0, 4)]
        founding = founded(5, *clubs)
        while clubs:
            self.assertIsNone(founding.undo())
            clubs.pop()
            self.check_state(founding, 5, clubs)

    def test_without_a_club(self):
        founding = Founding(3)
        self.check_raises(NoStep, {}, founding.undo)
        self.check_state(founding, 3, [])
        founding.add((0, 2))
        founding.undo()
        self.check_raises(NoStep, {}, founding.undo)
        self.check_state(founding, 3, [])
        founding.add((1, 2))
        self.check_state(founding, 3, [(1, 2)])

    def test_a_refused_club_is_no_step(self):
        founding = founded(4, (0, 1), (2, 3))
        for club, kind in [((0, 1), NoClub), ((1, 0), BadClub), (None, BadClub)]:
            self.check_raises(kind, {}, founding.add, club)
        founding.undo()
        self.check_state(founding, 4, [(0, 1)])
        founding.undo()
        self.check_raises(NoStep, {}, founding.undo)

    def test_a_club_taken_back_can_be_added_again(self):
        founding = founded(4, (0, 1, 2), (0, 3))
        founding.undo()
        founding.undo()
        founding.add((0, 3))
        founding.add((0, 1, 2))
        self.check_state(founding, 4, [(0, 3), (0, 1, 2)])
        founding.undo()
        founding.add((1, 2, 3))
        self.check_state(founding, 4, [(0, 3), (1, 2, 3)])

    def test_the_members_of_a_club_taken_back_are_apart_again(self):
        founding = founded(5, (0, 1, 2))
        self.check_raises(NoClub, {}, founding.add, (1, 2, 3))
        founding.undo()
        founding.add((1, 2, 3))
        self.check_raises(NoClub, {}, founding.add, (0, 1, 2))


class ValueTests(FoundingTestCase):

    def test_kinds_of_values(self):
        founding = founded(4, (2, 3), (0, 1))
        self.check_town_of_tuples(founding.town)
        self.check_tuple_of({tuple}, founding.added)
        self.assertIs(type(Founding(3).town), tuple)
        self.assertIs(type(Founding(3).added), tuple)
        self.assertIs(type(founding.missing()), int)

    def test_values_told_ahead_stay(self):
        founding = founded(4, (2, 3))
        town, added = founding.town, founding.added
        founding.add((0, 1))
        self.assertEqual((town, added), ((4, ((2, 3),)), ((2, 3),)))
        founding.undo()
        founding.undo()
        self.assertEqual((town, added), ((4, ((2, 3),)), ((2, 3),)))

    def test_reading_changes_nothing(self):
        founding = founded(5, (2, 3), (0, 1, 4))
        for _ in range(2):
            self.check_state(founding, 5, [(2, 3), (0, 1, 4)])

    def test_properties_are_only_read(self):
        founding = Founding(3)
        for name in ("town", "added"):
            self.assertIsInstance(vars(Founding)[name], property)
            with self.assertRaises(AttributeError):
                setattr(founding, name, ())

    def test_arguments_are_not_modified(self):
        for value in ([3], {3: [4]}, (3, [4])):
            self.check_unmodified(Founding, value)
        founding = Founding(4)
        for club in ([0, 1], [1, 0], (0, [1]), {0: [1]}, {0: 1, 1: 2}, (2, 3)):
            ahead = copy.deepcopy(club)
            self.check_unmodified(founding.add, club)
            self.assertEqual(club, ahead)


class ExampleTests(FoundingTestCase):

    def test_first_example(self):
        founding = Founding(4)
        told = [
            founding.add((1, 2, 3)), founding.missing(), founding.add((0, 3)), founding.town, founding.added,
            founding.undo(), founding.added,
        ]
        self.assertEqual(
            told, [None, 3, None, (4, ((0, 3), (1, 2, 3))), ((1, 2, 3), (0, 3)), None, ((1, 2, 3),)]
        )

    def test_second_example(self):
        self.check_raises(BadClub, {}, Founding(3).add, (0, 1, 2))


if __name__ == "__main__":
    unittest.main()
