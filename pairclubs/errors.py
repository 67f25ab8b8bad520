"""The errors of the package."""


class ClubError(ValueError):
    """The base class of all errors of the package."""


class BadTown(ClubError):
    """A value is no town: part is "whole", "people" or "clubs", the first that is wrong."""

    def __init__(self, part):
        self.part = part


class BadPerson(ClubError):
    """A value is no person of the town, or not one unlike the person ahead."""


class BadClub(ClubError):
    """A value is no club of the town's people."""


class BadNumber(ClubError):
    """A value is no integer, or none of those that are let here."""


class NotPairs(ClubError):
    """Some two people of the town are not together in just one club."""


class Doubled(ClubError):
    """Some two people of the town are together in several clubs."""


class NoClub(ClubError):
    """A club cannot be added: two of its members are together in a club already."""


class NoStep(ClubError):
    """There is no step to take back."""


class BadText(ClubError):
    """A value is no string."""


class BadLine(ClubError):
    """A text tells no town: word is the first one of the line that cannot stand or is lacking."""

    def __init__(self, line, word):
        self.line = line
        self.word = word
