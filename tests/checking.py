"""What the tests of all functions of a town check alike."""

import copy
import unittest

from pairclubs.errors import BadTown, ClubError
from wrong_values import WRONG_TOWNS


class TownTestCase(unittest.TestCase):

    def check_raises(self, kind, fields, function, *arguments):
        with self.subTest(function=function.__name__, arguments=arguments):
            with self.assertRaises(kind) as caught:
                function(*arguments)
            self.assertIs(type(caught.exception), kind)
            self.assertEqual(vars(caught.exception), fields)

    def check_wrong_towns(self, function, *others):
        for value, part in WRONG_TOWNS:
            self.check_raises(BadTown, {"part": part}, function, value, *others)

    def check_unmodified(self, function, *arguments):
        with self.subTest(function=function.__name__, arguments=arguments):
            ahead = copy.deepcopy(arguments)
            try:
                function(*arguments)
            except ClubError:
                pass
            self.assertEqual(arguments, ahead)
            self.assertEqual(repr(arguments), repr(ahead))

    def check_tuple_of(self, kinds, told):
        self.assertIs(type(told), tuple)
        self.assertEqual({type(item) for item in told}, kinds)

    def check_town_of_tuples(self, town):
        people, clubs = town
        self.assertIs(type(town), tuple)
        self.assertIs(type(people), int)
        self.assertIs(type(clubs), tuple)
        self.assertEqual({type(club) for club in clubs}, {tuple})
        self.assertEqual({type(person) for club in clubs for person in club}, {int})
