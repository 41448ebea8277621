"""The errors of the package, each listed under its base class.

Every class has an __init__ of its own instead of one that it shares: between an error and
its base class stands no other class of the package.
"""


class NotRight(ValueError):
    """A value is not of the kind that is asked for."""


class InvalidName(NotRight):
    """A value is no name."""

    def __init__(self, given):
        self.given = given


class InvalidMarks(NotRight):
    """A value is no marks."""

    def __init__(self, given):
        self.given = given


class InvalidSign(NotRight):
    """A value is no sign."""

    def __init__(self, given):
        self.given = given


class InvalidText(NotRight):
    """A value is no text of what is read."""

    def __init__(self, given):
        self.given = given


class InvalidCount(NotRight):
    """A value is no number from 0 to 20."""

    def __init__(self, given):
        self.given = given


class InvalidPlace(NotRight):
    """A value is no index of a claim."""

    def __init__(self, given):
        self.given = given


class InvalidClaim(NotRight):
    """A value is no claim."""

    def __init__(self, given):
        self.given = given


class NotAProgram(NotRight):
    """A value is no Program."""

    def __init__(self, given):
        self.given = given


class NotABook(NotRight):
    """A value is no Book."""

    def __init__(self, given):
        self.given = given


class InvalidCases(NotRight):
    """The cases of a program are not valid."""

    def __init__(self, index):
        self.index = index


class InvalidPeople(NotRight):
    """The people of a book are not valid."""

    def __init__(self, index):
        self.index = index


class InvalidPrograms(NotRight):
    """The programs of a book are not valid."""

    def __init__(self, index):
        self.index = index


class InvalidAnswers(NotRight):
    """The answers of a book are not valid."""

    def __init__(self, index):
        self.index = index


class InvalidThread(NotRight):
    """A thread does not go from a person on."""

    def __init__(self, index):
        self.index = index


class InvalidTexts(NotRight):
    """The texts of own lines are not valid."""

    def __init__(self, index):
        self.index = index


class InvalidLeft(NotRight):
    """The indexes of lines that are left out are not valid."""

    def __init__(self, index):
        self.index = index


class InvalidExchanges(NotRight):
    """The exchanges of programs are not valid."""

    def __init__(self, index):
        self.index = index


class InvalidSigns(NotRight):
    """The own signs are not valid."""

    def __init__(self, index):
        self.index = index


class NotThere(LookupError):
    """A book has nothing of this name."""


class UnknownPerson(NotThere):
    """A value is no name of a person of the book."""

    def __init__(self, given):
        self.given = given


class UnknownProgram(NotThere):
    """A value is no program, or no name of one, of the book."""

    def __init__(self, given):
        self.given = given


class UnknownAnswer(NotThere):
    """A value is no answer of the book."""

    def __init__(self, given):
        self.given = given


class CannotBe(ArithmeticError):
    """What is asked for cannot be done."""


class TooManySigns(CannotBe):
    """A book would have more than four unlike signs, so many."""

    def __init__(self, many):
        self.many = many


class NothingToUndo(CannotBe):
    """A desk has nothing that can be taken back."""


class Broken(CannotBe):
    """A claim of a desk would not hold; what is shown tells why."""

    def __init__(self, index, shown):
        self.index = index
        self.shown = shown
