"""Points 1 and 9: write_town, read_town."""

import itertools
import unittest

from checking import TownTestCase
from pairclubs.errors import BadLine, BadText
from pairclubs.towntexts import read_town, write_town
from town_lists import (
    SEVEN, affine_plane, all_pair_towns, all_towns, every_pair_town, pencil_around, projective_plane,
)
from wrong_values import NO_STRINGS

TOWN = (4, ((0, 1), (1, 2, 3)))
TEXT = "people 4\nclub 0 1\nclub 1 2 3"

# Towns whose texts are longer, or have several clubs that lie within others.
MORE_TOWNS = [
    (31, ()), (31, ((0, 30),)), (31, (tuple(range(30)), tuple(range(1, 31)))), (5, ((0, 1), (0, 1, 2), (0, 1, 2, 3))),
    (12, ((0, 1, 11), (2, 10), (9, 10, 11))), SEVEN, every_pair_town(31), pencil_around(31, 30), pencil_around(31, 0),
    affine_plane(5), projective_plane(5),
]

# What begins the right lines for a club of three people.
STARTS_OF_THREE = [
    ("club",), ("club", "0"), ("club", "1"), ("club", "2"), ("club", "0", "1"), ("club", "0", "2"), ("club", "1", "2"),
]

# Words that are no integers as they are written here.
NO_NUMBERS = [
    "x", "03", "003", "+3", "-3", "3.0", "3,", "3x", "x3", "1_0", "0x3", "3e0", "\t3", "3\t", "3\r", "\u0663", "\u00b3",
    "\uff13", "three", "-0", "+0", "00", "--", "()", "3\u00a0", "\x0b", "club", "people", "True", "9" * 5000,
]


class WriteTests(TownTestCase):

    def test_ordinary_towns(self):
        self.assertEqual(write_town(TOWN), TEXT)
        self.assertEqual(write_town((3, ((0, 2),))), "people 3\nclub 0 2")
        self.assertEqual(write_town((12, ((0, 1, 11), (2, 10)))), "people 12\nclub 0 1 11\nclub 2 10")

    def test_no_clubs(self):
        for people in range(3, 32):
            self.assertEqual(write_town((people, ())), f"people {people}")

    def test_one_line_for_each_club_in_their_order(self):
        for town in MORE_TOWNS:
            lines = write_town(town).split("\n")
            self.assertEqual(lines[0].split(" "), ["people", str(town[0])])
            told = [line.split(" ") for line in lines[1:]]
            self.assertEqual(told, [["club"] + [str(person) for person in club] for club in town[1]])

    def test_kind_of_value(self):
        self.assertIs(type(write_town(TOWN)), str)

    def test_no_towns(self):
        self.check_wrong_towns(write_town)

    def test_arguments_are_not_modified(self):
        for value in [TOWN, (3, ()), [3, [[1, 0]]], (3, [(1, 0)]), (3, ([1, 0],)), {3: [2, 1]}, [2, 1]]:
            self.check_unmodified(write_town, value)


class ReadTests(TownTestCase):

    def check_lines(self, lines, line, word):
        self.check_raises(BadLine, {"line": line, "word": word}, read_town, "\n".join(lines))


class ReadRightTextsTests(ReadTests):

    def test_ordinary_texts(self):
        self.assertEqual(read_town(TEXT), TOWN)
        self.assertEqual(read_town("people 3\nclub 0 2"), (3, ((0, 2),)))
        self.assertEqual(read_town("people 3\nclub 0 1\nclub 0 2\nclub 1 2"), (3, ((0, 1), (0, 2), (1, 2))))

    def test_no_clubs(self):
        for people in range(3, 32):
            self.assertEqual(read_town(f"people {people}"), (people, ()))

    def test_what_is_written(self):
        for town in MORE_TOWNS:
            self.assertEqual(read_town(write_town(town)), town)
        for people in (3, 4):
            for town in all_towns(people):
                self.assertEqual(read_town(write_town(town)), town)
        for people in (5, 6):
            for town in all_pair_towns(people):
                self.assertEqual(read_town(write_town(town)), town)

    def test_spaces_before_between_and_behind_words(self):
        for before, between, behind in itertools.product(["", " ", "     "], [" ", "  ", "      "], ["", " ", "    "]):
            text = "\n".join(before + line.replace(" ", between) + behind for line in TEXT.split("\n"))
            with self.subTest(text):
                self.assertEqual(read_town(text), TOWN)
        self.assertEqual(read_town("  people   4 \n club 0  1\nclub  1   2 3   "), TOWN)

    def test_void_lines_anywhere(self):
        lines = TEXT.split("\n")
        for void in (["", ""], [""], [" "], ["", "   ", ""]):
            for at in range(4):
                text = "\n".join(lines[:at] + void + lines[at:])
                with self.subTest(text):
                    self.assertEqual(read_town(text), TOWN)
            text = "\n".join(void + [line for right in lines for line in [right, *void]])
            self.assertEqual(read_town(text), TOWN)
        self.assertEqual(read_town("\n\npeople 3\n\n"), (3, ()))

    def test_kind_of_value(self):
        self.check_town_of_tuples(read_town(TEXT))
        self.assertIs(type(read_town("people 3")[1]), tuple)

    def test_equal_arguments_have_equal_answers(self):
        self.assertEqual(read_town(TEXT), read_town(TEXT))


class ReadNoTextTests(ReadTests):

    def test_no_strings(self):
        for value in NO_STRINGS:
            self.check_raises(BadText, {}, read_town, value)

    def test_without_words(self):
        for text, line in [
            ("", 2), (" ", 2), ("     ", 2), ("\n", 3), (" \n", 3), ("\n ", 3), ("  \n   ", 3), ("\n\n", 4),
            (" \n  \n ", 4), ("\n" * 100, 102),
        ]:
            self.check_raises(BadLine, {"line": line, "word": 1}, read_town, text)

    def test_arguments_are_not_modified(self):
        for value in [TEXT, ["people 3"], {"people": [3]}, (["people 3"],)]:
            self.check_unmodified(read_town, value)


class ReadPeopleTests(ReadTests):

    def test_first_word_is_not_people(self):
        for word in ["club", "People", "PEOPLE", "person", "people3", "3", "peopl", "\tpeople", "people\t", "\t", "\r"]:
            self.check_lines([f"{word} 3"], 1, 1)
            self.check_lines([word], 1, 1)
            self.check_lines([f"  {word} x y", "club 0 1"], 1, 1)
            self.check_lines(["", "  ", f"{word} 3"], 3, 1)

    def test_a_club_ahead_of_the_people(self):
        self.check_lines(["club 0 1", "people 3"], 1, 1)
        self.check_lines(["3", "people 3"], 1, 1)

    def test_a_number_of_people_lacks(self):
        self.check_lines(["people"], 1, 2)
        self.check_lines(["   people   "], 1, 2)
        self.check_lines(["", "people", "3"], 2, 2)
        self.check_lines(["people", "club 0 1"], 1, 2)

    def test_no_number_of_people(self):
        for word in NO_NUMBERS + ["2", "32", "0", "1", "-1", "33", "100", "310", "31.", "44"]:
            self.check_lines([f"people {word}"], 1, 2)
            self.check_lines([f"people {word} 3", "club 0 1"], 1, 2)
            self.check_lines([" ", "", f" people  {word}"], 3, 2)

    def test_a_third_word(self):
        for word in ["3", "4", "x", "people", "club", "0", "\t"]:
            self.check_lines([f"people 3 {word}"], 1, 3)
            self.check_lines([f"people 31 {word} 5 x"], 1, 3)
            self.check_lines(["", f"  people   3   {word}", "x"], 2, 3)

    def test_a_tab_parts_no_words(self):
        self.check_lines(["people\t3"], 1, 1)
        self.check_lines(["people 3\t4"], 1, 2)
        self.check_lines(["people 3", "club 0\t1"], 2, 2)
        self.check_lines(["people 3", "club\t0 1"], 2, 1)

    def test_only_a_newline_parts_lines(self):
        for sign in ["\r", "\x0b", "\x0c", "\x1c", "\x85", "\u2028"]:
            self.check_lines([f"people 3{sign}club 0 1"], 1, 2)
            self.check_lines([f"people 3 {sign} club 0 1"], 1, 3)
            self.check_lines(["people 3", f"club 0 1{sign}", "club 0 2"], 2, 3)
            self.check_lines(["people 3", sign], 2, 1)


class ReadClubTests(ReadTests):

    def test_first_word_is_not_club(self):
        for word in ["people", "clubs", "Club", "CLUB", "club0", "0", "x", "\tclub", "club\t", "\t"]:
            self.check_lines(["people 3", f"{word} 0 1"], 2, 1)
            self.check_lines(["people 3", word], 2, 1)
            self.check_lines(["people 3", "club 0 1", "", f"  {word} 0 2"], 4, 1)
        self.check_lines(["people 3", "people 3"], 2, 1)

    def test_both_persons_lack(self):
        self.check_lines(["people 3", "club"], 2, 2)
        self.check_lines(["people 3", "  club   "], 2, 2)
        self.check_lines(["people 3", "club 1 2", "", "club", "club 0 1"], 4, 2)

    def test_a_second_person_lacks(self):
        for person in range(3):
            self.check_lines(["people 3", f"club {person}"], 2, 3)
            self.check_lines(["people 3", f" club  {person}  "], 2, 3)
        self.check_lines(["people 31", "club 30"], 2, 3)
        # It is no club yet, so it is not told that it doesn't come behind the one ahead.
        self.check_lines(["people 4", "club 2 3", "club 0"], 3, 3)
        self.check_lines(["people 4", "club 2 3", "club"], 3, 2)

    def test_no_person(self):
        for word in NO_NUMBERS + ["4", "5", "10", "31", "-1"]:
            self.check_lines(["people 4", f"club {word}"], 2, 2)
            self.check_lines(["people 4", f"club {word} 1"], 2, 2)
            self.check_lines(["people 4", f"club 0 {word}"], 2, 3)
            self.check_lines(["people 4", f"club 0 {word} 2", "x"], 2, 3)
            self.check_lines(["people 4", f"club 0 1 {word}"], 2, 4)
            self.check_lines(["people 4", "", "club 0 1", f"  club   1  2   {word}"], 4, 4)

    def test_the_last_person(self):
        for people in (4, 12, 31):
            last = people - 1
            self.assertEqual(read_town(f"people {people}\nclub 0 {last}"), (people, ((0, last),)))
            self.check_lines([f"people {people}", f"club 0 {people}"], 2, 3)
            self.check_lines([f"people {people}", f"club 0 {last} {people}"], 2, 4)

    def test_no_person_above_the_one_ahead(self):
        for words, word in [
            ("0 0", 3), ("1 1", 3), ("1 0", 3), ("3 0", 3), ("3 3", 3), ("3 4", 3), ("0 1 1", 4), ("0 2 1", 4),
            ("0 3 0", 4), ("2 1 0", 3), ("1 3 2", 4), ("1 2 2 x", 4),
        ]:
            self.check_lines(["people 4", f"club {words}"], 2, word)

    def test_numbers_are_no_strings_in_order(self):
        self.assertEqual(read_town("people 12\nclub 2 10\nclub 9 11"), (12, ((2, 10), (9, 11))))
        self.check_lines(["people 12", "club 10 2"], 2, 3)
        self.check_lines(["people 12", "club 10 11", "club 2 3"], 3, 1)

    def test_a_club_of_all_people(self):
        for people in range(3, 32):
            words = " ".join(str(person) for person in range(people))
            self.check_lines([f"people {people}", f"club {words}"], 2, people + 1)
            self.check_lines([f"people {people}", "", f"  club {words} {people}", "x"], 3, people + 1)
            fewer = " ".join(str(person) for person in range(1, people))
            self.assertEqual(read_town(f"people {people}\nclub {fewer}")[1], (tuple(range(1, people)),))

    def test_a_club_that_does_not_come_behind_the_one_ahead(self):
        for ahead, club in [
            ("0 1", "0 1"), ("0 2", "0 1"), ("1 2", "0 3"), ("0 1 2", "0 1"), ("0 2", "0 1 3"), ("2 3", "1 2 3"),
        ]:
            self.check_lines(["people 4", f"club {ahead}", f"club {club}"], 3, 1)
            self.check_lines(["people 4", "", f"club {ahead}", "  ", f"  club {club}", "club x"], 5, 1)
        self.assertEqual(read_town("people 4\nclub 0 1\nclub 0 1 2\nclub 0 2")[1], ((0, 1), (0, 1, 2), (0, 2)))
        # It is the club just ahead that counts, and the one in the third line here stands behind it.
        self.check_lines(["people 4", "club 0 1", "club 2 3", "club 1 2"], 4, 1)

    def test_a_wrong_word_ahead_of_the_order(self):
        self.check_lines(["people 4", "club 2 3", "club 0 x"], 3, 3)
        self.check_lines(["people 4", "club 2 3", "club 0 1 2 3"], 3, 5)
        self.check_lines(["people 4", "club 0 1", "club 0 1 1"], 3, 4)

    def test_line_by_line(self):
        self.check_lines(["people 4", "club 0 1 2 3", "x"], 2, 5)
        self.check_lines(["people 4", "club 0", "x"], 2, 3)
        self.check_lines(["people 4", "club 2 3", "club 0 1", "x"], 3, 1)
        self.check_lines(["people 4 4", "x"], 1, 3)
        self.check_lines(["people 3", "club 0 3", "club 0 1"], 2, 3)

    def test_all_lines_of_up_to_four_words_for_three_people(self):
        words = ("club", "people", "0", "1", "2", "3", "01")
        for many in range(1, 5):
            for line in itertools.product(words, repeat=many):
                standing = [at for at in range(1, many + 1) if line[:at] in STARTS_OF_THREE]
                text = "people 3\n" + " ".join(line)
                if len(standing) == many == 3:
                    self.assertEqual(read_town(text), (3, (tuple(int(word) for word in line[1:]),)))
                else:
                    self.check_raises(BadLine, {"line": 2, "word": len(standing) + 1}, read_town, text)


class ExampleTests(ReadTests):

    def test_first_example(self):
        self.assertEqual(
            [write_town((4, ((0, 1), (1, 2, 3)))), read_town("people 3\nclub 0 2")],
            ["people 4\nclub 0 1\nclub 1 2 3", (3, ((0, 2),))],
        )

    def test_second_example(self):
        self.check_raises(BadLine, {"line": 2, "word": 4}, read_town, "people 3\nclub 0 1 2")


if __name__ == "__main__":
    unittest.main()
