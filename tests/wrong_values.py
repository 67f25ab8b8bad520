"""Values that are no towns, and values that are no people, for the tests of all functions."""

# No tuples of length two: the whole is wrong.
WRONG_WHOLE = [
    3, 0, -1, 10 ** 30, True, False, None, "", "ab", "3()",
    (), (3,), (3, (), ()), ((3, ()),), (3, (0, 1), (0, 2)),
    [], [3, ()], [3, []], {}, {3: ()}, {3: (), 4: ()}, {"people": 3, "clubs": ()},
]

# Pairs with a wrong number of people, whatever stands behind it.
WRONG_PEOPLE_NUMBERS = [
    2, 32, 1, 0, -1, -3, 10 ** 30, True, False, None, "", "3", "people",
    (), (3,), (0, 1, 2), [], [3], {}, {3: 3},
]
WRONG_PEOPLE = (
    [(people, ()) for people in WRONG_PEOPLE_NUMBERS]
    + [(2, ((0, 1),)), (32, ((0, 1),)), (True, ((0, 1),))]
    + [(2, None), (32, [(0, 1)]), (None, None), ("3", "clubs"), (False, True), ([3], [[0, 1]])]
)

# Pairs with a right number of people and wrong clubs.
WRONG_CLUBS = [
    (3, clubs) for clubs in [
        0, 3, True, False, None, "", "01", [], [(0, 1)], {}, {(0, 1): (0, 2)},
        (0,), (0, 1), (True,), (None,), ("",), ("01",), ("ab", "cd"),
        ([],), ([0, 1],), ({},), ({0: 1, 1: 2},), (((0, 1),),), (((0, 1), (0, 2)),),
        ((),), ((0,),), ((2,),), ((0, 0),), ((1, 1),), ((1, 0),), ((0, 1, 1),), ((0, 0, 1),),
        ((0, 1, 2),), ((0, 1, 2, 3),), ((0, 3),), ((1, 3),), ((-1, 0),), ((-2, -1),), ((0, 10 ** 30),),
        ((0, True),), ((False, 1),), ((False, True),), ((True, 2),), ((None, 1),), ((0, None),),
        ((0, "1"),), (("0", "1"),), ((0, (1,)),), ((0, [1]),), ((0, {1: 1}),), (([0], [1]),),
        ((0, 1), (0, 1)), ((0, 2), (0, 1)), ((1, 2), (0, 1)), ((0, 1), (1, 2), (0, 2)),
        ((0, 1), (0, 2), (0, 2)), ((0, 1), None), ((0, 1), 5), ((0, 1), "12"), ((0, 1), [1, 2]),
        ((0, 1), (2, 1)), ((0, 1), (0,)), (None, (0, 1)),
    ]
] + [
    (4, ((0, 1, 2, 3),)), (4, ((0, 2, 1),)), (4, ((0, 1, 2), (0, 1))), (4, ((0, 1, 3), (0, 1, 2))),
    (4, ((0, 4),)), (4, ((0, 1), (0, 1, 2), (0, 1, 2))), (5, ((0, 1, 2, 3, 4),)),
    (31, (tuple(range(31)),)), (31, ((0, 31),)), (31, (tuple(range(1, 32)),)),
]

# Each wrong town with the word for what is wrong in it.
WRONG_TOWNS = (
    [(town, "whole") for town in WRONG_WHOLE]
    + [(town, "people") for town in WRONG_PEOPLE]
    + [(town, "clubs") for town in WRONG_CLUBS]
)

# Values that are no people of a town of five.
WRONG_PERSONS_OF_FIVE = [
    -1, 5, 6, 31, -5, 10 ** 30, -(10 ** 30), True, False, None, "", "0", "1",
    (), (0,), (0, 1), [], [0], {}, {0: 0}, ((0, 1, 2),),
]

# Values that are no clubs of a town of five.
WRONG_CLUBS_OF_FIVE = [
    0, 1, -1, 10 ** 30, True, False, None, "", "01", "0 1",
    (), (0,), (4,), (0, 0), (1, 0), (4, 3), (0, 1, 1), (0, 2, 1), (1, 2, 0), (0, 1, 2, 3, 4), (0, 1, 2, 3, 4, 5),
    (0, 5), (4, 5), (5, 6), (-1, 0), (-2, -1), (0, 10 ** 30), (0, True), (False, 1), (False, True), (True, 2),
    (0, None), (None, 1), (0, "1"), ("0", "1"), (0, (1,)), ((0, 1),), ((0, 1), (0, 2)), (0, [1]), ([0], [1]),
    (0, {1: 1}), ({}, {}), [], [0, 1], [[0, 1]], {}, {0: 1}, {0: 0, 1: 1},
]

# Values that are no integers, among them such as hold one or look like one.
NO_INTEGERS = [
    True, False, None, "", "3", "5", "a", (), (3,), (3, ()), (5, 5), [], [3], [2, 3, 5], {}, {3: 3}, {"people": 5},
]

# Values that are no strings, among them such as hold one.
NO_STRINGS = [
    0, 3, -1, 10 ** 30, True, False, None, (), ("people 3",), ("people 3", "club 0 1"), (3, ()), [], ["people 3"],
    {}, {"people": 3}, {"people 3": "club 0 1"},
]
