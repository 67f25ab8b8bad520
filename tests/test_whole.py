"""Point 1 over the whole program, and what holds between the points."""

import itertools
import unittest

from checking import TownTestCase
from pairclubs.errors import (
    BadClub, BadLine, BadNumber, BadPerson, BadText, BadTown, ClubError, Doubled, NoClub, NoStep, NotPairs,
)
from pairclubs.finishes import can_add, finished, least_finished, shows_least_finished
from pairclubs.foundings import Founding
from pairclubs.kinds import close, kinds, surplus
from pairclubs.lists import counts_by_clubs, pair_towns
from pairclubs.pairs import doubled, is_pair_town, missing
from pairclubs.planes import pencil, plane
from pairclubs.shares import is_evenly_shared, shares, turned
from pairclubs.towns import clubs_of, is_town, members, together
from pairclubs.towntexts import read_town, write_town
from town_lists import SEVEN, TRIANGLE, all_clubs, begun_towns, every_pair_town, pencil_around, times_together
from wrong_values import NO_INTEGERS, NO_STRINGS, WRONG_CLUBS_OF_FIVE, WRONG_PERSONS_OF_FIVE, WRONG_TOWNS

PAIR_TOWNS = [TRIANGLE, (4, ((0, 1, 2), (0, 3), (1, 3), (2, 3))), every_pair_town(5), pencil_around(6, 2), SEVEN]
BEGUN_TOWNS = [(3, ()), (5, ()), (5, ((0, 1, 2), (0, 3, 4))), (6, ((2, 5),)), (7, SEVEN[1][1:]), (31, ())]
DOUBLED_TOWNS = [
    (4, ((0, 1, 2), (0, 1, 3))), (5, ((0, 1), (0, 1, 2))), (6, ((0, 1, 2, 3), (2, 3, 4))), (7, ((0, 1),) + SEVEN[1]),
    (31, (tuple(range(30)), tuple(range(1, 31)))),
]
TOWNS = PAIR_TOWNS + BEGUN_TOWNS + DOUBLED_TOWNS

# As text, since the values here hold True, which Python takes for 1.
TEXTS_OF_TOWNS = [repr(town) for town in TOWNS]

# Every eighth of the wrong towns, so that each part stays among them.
VALUES = [value for value, _ in WRONG_TOWNS[::8]] + TOWNS + [0, 1, 2, 3, 4, (0, 1), (1, 3), (1, 2, 3), "people 3"]
EVERY_VALUE = (
    [value for value, _ in WRONG_TOWNS] + TOWNS + WRONG_CLUBS_OF_FIVE + WRONG_PERSONS_OF_FIVE + NO_INTEGERS + NO_STRINGS
)


def is_counting(value):
    return type(value) is int


def wrong_town(value, *others):
    if repr(value) in TEXTS_OF_TOWNS:
        return None
    if type(value) is not tuple or len(value) != 2:
        return (BadTown, {"part": "whole"})
    # All towns among the values are listed above, so behind a right number of people the clubs are wrong.
    return (BadTown, {"part": "clubs" if is_counting(value[0]) and 3 <= value[0] <= 31 else "people"})


def wrong_person(town, person, *others):
    return None if is_counting(person) and 0 <= person < town[0] else (BadPerson, {})


def wrong_other(town, one, other):
    return (BadPerson, {}) if one == other else wrong_person(town, other)


def not_pairs(town, *others):
    return None if town in PAIR_TOWNS else (NotPairs, {})


def is_doubled(town, *others):
    return (Doubled, {}) if town in DOUBLED_TOWNS else None


def wrong_club(town, club):
    return None if repr(club) in [repr(right) for right in all_clubs(min(town[0], 7))] else (BadClub, {})


def no_club(town, club):
    return (NoClub, {}) if any(times_together(town, pair) for pair in itertools.combinations(club, 2)) else None


def too_many(town, *others):
    return (BadNumber, {}) if town[0] > 6 else None


def wrong_text(text):
    if type(text) is not str:
        return (BadText, {})
    if text == "people 3":
        return None
    # The other strings among the values have no words, or begin with one that isn't people.
    return (BadLine, {"line": 1 if text.strip(" ") else 2, "word": 1})


def number_among(*numbers):
    return lambda value: None if is_counting(value) and value in numbers else (BadNumber, {})


# Each function of the interface with the errors that it may raise, in the order in which they count.
CHECKS = {
    is_town: [], members: [wrong_town], clubs_of: [wrong_town, wrong_person],
    together: [wrong_town, wrong_person, wrong_other],
    missing: [wrong_town], doubled: [wrong_town], is_pair_town: [wrong_town],
    surplus: [wrong_town, not_pairs], kinds: [wrong_town, not_pairs], close: [wrong_town, not_pairs],
    can_add: [wrong_town, is_doubled, wrong_club], finished: [wrong_town, is_doubled],
    least_finished: [wrong_town, is_doubled, too_many], shows_least_finished: [wrong_town, is_doubled, too_many],
    shares: [wrong_town], is_evenly_shared: [wrong_town], turned: [wrong_town],
    pair_towns: [number_among(3, 4, 5, 6)], counts_by_clubs: [number_among(3, 4, 5, 6)],
    pencil: [number_among(*range(3, 32))], plane: [number_among(2, 3, 5)], Founding: [number_among(*range(3, 32))],
    write_town: [wrong_town], read_town: [wrong_text],
}
OF_TWO = (clubs_of, can_add, shows_least_finished)
OF_THREE = (together,)
OF_ONE = [function for function in CHECKS if function not in OF_TWO + OF_THREE]


def first_error(checks, arguments):
    for check in checks:
        told = check(*arguments)
        if told is not None:
            return told
    return None


class AnyValueTests(TownTestCase):

    def check_call(self, function, arguments, expected):
        """Check what a call raises, and that it modifies no argument."""
        ahead = repr(arguments)
        with self.subTest(function=function.__name__, arguments=arguments):
            try:
                function(*arguments)
                raised = None
            except ClubError as error:
                raised = (type(error), vars(error))
            self.assertEqual(raised, expected)
            self.assertEqual(repr(arguments), ahead)

    def check_function(self, function, *arguments):
        self.check_call(function, arguments, first_error(CHECKS[function], arguments))

    def test_functions_of_one_argument(self):
        for function in OF_ONE:
            for value in EVERY_VALUE + list(range(-3, 35)):
                self.check_function(function, value)

    def test_functions_of_two_arguments(self):
        for function in OF_TWO:
            for arguments in itertools.product(VALUES, repeat=2):
                self.check_function(function, *arguments)

    def test_functions_of_three_arguments(self):
        others = [0, 1, 2, 4, 5, 31, True, False, None, "1", (0,), (0, 1), [1], {1: 1}, TRIANGLE]
        for function in OF_THREE:
            for arguments in itertools.product(VALUES, others, others):
                self.check_function(function, *arguments)

    def test_add_of_a_founding(self):
        for town in BEGUN_TOWNS:
            for value in EVERY_VALUE:
                founding = Founding(town[0])
                for club in town[1]:
                    founding.add(club)
                expected = first_error([wrong_club, no_club], (town, value))
                self.check_call(founding.add, (value,), expected)
                self.assertEqual(founding.added, town[1] if expected is not None else (*town[1], value))

    def test_shows_a_boolean_for_any_last_argument(self):
        for town in [(3, ()), (4, ((0, 1),)), TRIANGLE, (6, ((0, 1, 2, 3, 4),))]:
            for value in EVERY_VALUE:
                self.assertIs(type(shows_least_finished(town, value)), bool)

    def test_true_and_false_are_no_integers(self):
        for value in (True, False):
            for function in (pair_towns, counts_by_clubs, pencil, plane, Founding):
                self.check_raises(BadNumber, {}, function, value)
            self.check_raises(BadPerson, {}, clubs_of, TRIANGLE, value)
            self.check_raises(BadClub, {}, can_add, (3, ()), (value, 2))
            self.check_raises(BadClub, {}, Founding(3).add, (value, 2))
            self.check_raises(BadTown, {"part": "people"}, write_town, (value, ()))
            self.check_raises(BadTown, {"part": "clubs"}, write_town, (3, ((value, 2),)))

    def test_no_step_is_there_for_each_number_of_people(self):
        for people in range(3, 32):
            self.check_raises(NoStep, {}, Founding(people).undo)


class TownsOfThePointsTests(TownTestCase):
    """Points 2 to 6 hold for the towns that points 7, 8 and 9 give."""

    def check_any_town(self, town):
        people, clubs = town
        every = list(itertools.combinations(range(people), 2))
        counts = {pair: times_together(town, pair) for pair in every}
        self.assertIs(is_town(town), True)
        self.assertEqual(sum(members(town)), sum(len(club) for club in clubs))
        for person in range(people):
            self.assertEqual(clubs_of(town, person), tuple(club for club in clubs if person in club))
            self.assertEqual(members(town)[person], len(clubs_of(town, person)))
        for one, other in every[::7]:
            self.assertEqual(len(together(town, one, other)), counts[(one, other)])
        self.assertEqual(missing(town), tuple(pair for pair in every if counts[pair] == 0))
        self.assertEqual(doubled(town), tuple(pair for pair in every if counts[pair] > 1))
        self.assertIs(is_pair_town(town), set(counts.values()) == {1})
        in_common = {len(set(one) & set(other)) for one, other in itertools.combinations(clubs, 2)}
        self.assertEqual(shares(town), tuple(sorted(in_common)))
        self.assertIs(is_evenly_shared(town), in_common == set() or (len(in_common) == 1 and in_common != {0}))
        if is_evenly_shared(town):
            self.assertLessEqual(len(clubs), people)
        if turned(town) is not None:
            self.assertEqual(turned(town)[0], len(clubs))
            self.assertEqual(sorted(len(club) for club in turned(town)[1]), sorted(members(town)))
        self.assertEqual(read_town(write_town(town)), town)

    def check_begun_town(self, town):
        people, clubs = town
        self.check_any_town(town)
        self.assertEqual(doubled(town), ())
        self.assertEqual(finished(town), (people, tuple(sorted(clubs + missing(town)))))
        self.assertIs(is_pair_town(finished(town)), True)
        for pair in itertools.combinations(range(people), 2):
            self.assertIs(can_add(town, pair), pair in missing(town))

    def check_pair_town(self, town):
        people, clubs = town
        self.check_begun_town(town)
        self.assertIs(is_pair_town(town), True)
        self.assertEqual(surplus(town), len(clubs) - people)
        self.assertGreaterEqual(surplus(town), 0)
        self.assertEqual(surplus(town) == 0, kinds(town) != ())
        counts = members(town)
        outside = [(person, club) for person in range(people) for club in clubs if person not in club]
        self.assertTrue(all(counts[person] >= len(club) for person, club in outside))
        self.assertEqual(close(town), tuple((person, club) for person, club in outside if counts[person] == len(club)))
        self.assertEqual(finished(town), town)

    def test_each_listed_pair_town(self):
        for people in (3, 4, 5, 6):
            for town in pair_towns(people):
                self.check_pair_town(town)

    def test_listed_pair_towns_are_the_only_least_ones(self):
        for people in (3, 4, 5, 6):
            least = [town for town in pair_towns(people) if shows_least_finished((people, ()), town)]
            self.assertEqual(least, [town for town in pair_towns(people) if surplus(town) == 0])
            self.assertEqual(counts_by_clubs(people)[0], (people, len(least)))
            self.assertIn(least_finished((people, ())), least)
            self.assertIn(finished((people, ())), pair_towns(people))

    def test_least_towns_are_listed(self):
        for people in (3, 4, 5):
            listed = pair_towns(people)
            for town in begun_towns(people):
                self.assertIn(least_finished(town), listed)

    def test_pencils(self):
        for people in range(3, 32):
            town = pencil(people)
            self.check_pair_town(town)
            self.assertEqual(kinds(town), ("pencil", "plane") if people == 3 else ("pencil",))
            self.assertIs(is_evenly_shared(town), True)
            self.assertEqual(turned(town)[0], people)
            self.assertIn("pencil", kinds(turned(town)))

    def test_small_pencils_are_listed_and_least(self):
        for people in (3, 4, 5, 6):
            self.assertIn(pencil(people), pair_towns(people))
            begun = (people, (tuple(range(people - 1)),))
            self.assertEqual(least_finished(begun), pencil(people))
            self.assertIs(shows_least_finished(begun, pencil(people)), True)

    def test_planes(self):
        for prime in (2, 3, 5):
            town = plane(prime)
            self.check_pair_town(town)
            self.assertEqual(town[0], prime * prime + prime + 1)
            self.assertEqual(kinds(town), ("plane",))
            self.assertEqual(set(members(town)), {prime + 1})
            self.assertEqual(shares(town), (1,))
            self.assertIs(is_evenly_shared(town), True)
            self.assertEqual(kinds(turned(town)), ("plane",))
            self.assertEqual(len(close(town)), town[0] * (town[0] - prime - 1))

    def test_the_town_of_a_founding(self):
        for people, clubs in [plane(3), pencil(8), pencil(31), plane(2), (6, ((0, 1, 2), (0, 4, 5), (2, 3, 4)))]:
            founding = Founding(people)
            for club in sorted(clubs, key=lambda club: (club[-1], club[0])):
                self.assertIs(can_add(founding.town, club), True)
                founding.add(club)
                self.assertEqual(founding.missing(), len(missing(founding.town)))
            self.check_begun_town(founding.town)
            self.assertEqual(founding.town, (people, clubs))
            while founding.added:
                last = founding.added[-1]
                founding.undo()
                self.assertIs(can_add(founding.town, last), True)
            self.check_begun_town(founding.town)

    def test_a_founding_finished(self):
        founding = Founding(6)
        for club in [(1, 3, 5), (0, 1, 2), (0, 3, 4)]:
            founding.add(club)
            self.check_pair_town(least_finished(founding.town))
        for pair in missing(founding.town):
            founding.add(pair)
        self.assertEqual(founding.missing(), 0)
        self.check_pair_town(founding.town)
        self.assertIn(founding.town, pair_towns(6))

    def test_all_small_foundings(self):
        for people in (3, 4):
            for town in begun_towns(people):
                founding = Founding(people)
                for club in town[1]:
                    founding.add(club)
                self.assertEqual(founding.town, town)
                self.check_begun_town(founding.town)

    def test_a_town_read(self):
        for text, town in [
            ("people 3", (3, ())), ("people 31\nclub 0 30", (31, ((0, 30),))),
            (" people 5\n\nclub 0  1 2\n club 0 3 4 \n", (5, ((0, 1, 2), (0, 3, 4)))),
        ]:
            self.assertEqual(read_town(text), town)
            self.check_begun_town(read_town(text))
        self.check_any_town(read_town("people 5\nclub 0 1\nclub 0 1 2 3\nclub 0 1 4\nclub 1 2 3 4"))
        self.check_pair_town(read_town("people 4\nclub 0 1 2\nclub 0 3\nclub 1 3\nclub 2 3"))

    def test_answers_do_not_depend_on_earlier_ones(self):
        first = (pair_towns(4), counts_by_clubs(5), pencil(5), plane(2), least_finished((4, ((0, 1),))))
        for people in (6, 3, 5):
            pair_towns(people)
            least_finished((people, ()))
        self.assertEqual(
            (pair_towns(4), counts_by_clubs(5), pencil(5), plane(2), least_finished((4, ((0, 1),)))), first
        )


if __name__ == "__main__":
    unittest.main()
