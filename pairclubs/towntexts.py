"""The text of a town: a line for its number of people and a line for each club."""

from pairclubs.errors import BadLine, BadText
from pairclubs.towns import FEWEST_PEOPLE, MOST_PEOPLE, check_town

PEOPLE_WORD = "people"
CLUB_WORD = "club"


def write_club(club):
    """Return the line that tells a club."""
    return " ".join([CLUB_WORD, *[str(person) for person in club]])


def write_town(town):
    """Return the text of a town."""
    check_town(town)
    people, clubs = town
    return "\n".join([f"{PEOPLE_WORD} {people}", *[write_club(club) for club in clubs]])


def words_of(line):
    """Return the list of the words of a line."""
    # Only spaces part words: split() without a sign would part them at a tab, too.
    return [word for word in line.split(" ") if word != ""]


def number_told(word, low, high):
    """Return the integer from low to high that a word writes without needless zeros, None if it writes none."""
    # int() would also read 03, +3, 1_0 and digits of other scripts.
    for number in range(low, high + 1):
        if word == str(number):
            return number
    return None


def read_people(words, line):
    """Return the number of people that the words of the first line with words tell."""
    if words[0] != PEOPLE_WORD:
        raise BadLine(line, 1)
    people = number_told(words[1], FEWEST_PEOPLE, MOST_PEOPLE) if len(words) > 1 else None
    if people is None:
        raise BadLine(line, 2)
    if len(words) > 2:
        raise BadLine(line, 3)
    return people


def read_club(words, line, people):
    """Return the club of so many people that the words of a line tell."""
    if words[0] != CLUB_WORD:
        raise BadLine(line, 1)
    club = []
    lowest = 0
    for at, word in enumerate(words[1:], start=2):
        person = number_told(word, lowest, people - 1)
        if person is None or len(club) == people - 1:
            raise BadLine(line, at)
        club.append(person)
        lowest = person + 1
    if len(club) < 2:
        raise BadLine(line, len(words) + 1)
    return tuple(club)


def read_next_club(words, line, people, clubs):
    """Return the club that the words of a line tell, which comes behind the clubs that are read already."""
    club = read_club(words, line, people)
    if len(clubs) > 0 and club <= clubs[-1]:
        raise BadLine(line, 1)
    return club


def read_town(text):
    """Return the town that a text tells."""
    if not isinstance(text, str):
        raise BadText()
    lines = text.split("\n")
    people = None
    clubs = []
    for at, line in enumerate(lines, start=1):
        words = words_of(line)
        if len(words) == 0:
            continue
        if people is None:
            people = read_people(words, at)
        else:
            clubs.append(read_next_club(words, at, people, clubs))
    if people is None:
        raise BadLine(len(lines) + 1, 1)
    return (people, tuple(clubs))
