"""The errors of the program."""


class HallError(ValueError):
    """What all errors of the program stand under."""


class BadLetters(HallError):
    """Letters, or the signs of a part "one", are not as they should be."""


class BadRule(HallError):
    """A tuple has none of the forms of a rule."""


class BadNumber(HallError):
    """A number is none, or it is too small or too great."""


class BadName(HallError):
    """A name is none."""


class TooDeep(HallError):
    """A part of a rule stands too deep."""


class BadMachine(HallError):
    """A tuple is no machine."""


class TooMany(HallError):
    """More things are met than may be."""


class TooGreat(HallError):
    """A machine has more states than may be."""


class NotLeast(HallError):
    """A state of a machine is not reached, or two states are alike."""


class NoWord(HallError):
    """There is no such word."""


class NothingToUndo(HallError):
    """There is nothing that can be taken back."""


class NothingToRedo(HallError):
    """There is nothing that can be done again."""


class BadTurner(HallError):
    """A tuple is no turner."""


class NotOne(HallError):
    """A turner has two answers for some word."""


class BadAnswer(HallError):
    """An answer does not go with its question."""


class NoQuestion(HallError):
    """There is no question that could be answered."""


class BadSheet(HallError):
    """A sheet is not as it should be."""


class BadWord(HallError):
    """A word has a sign that is no letter, at this place, counted from 0."""

    def __init__(self, place):
        HallError.__init__(self, f"wrong sign at place {place}")
        self.place = place


class BadSize(HallError):
    """Something has this size, and may not have it."""

    def __init__(self, size):
        HallError.__init__(self, f"wrong size {size}")
        self.size = size


class UnknownName(HallError):
    """This name is not one of those that are allowed."""

    def __init__(self, name):
        HallError.__init__(self, f"unknown name {name}")
        self.name = name


class InUse(HallError):
    """This name is in use."""

    def __init__(self, name):
        HallError.__init__(self, f"name in use {name}")
        self.name = name


class Ring(HallError):
    """This name leads back to itself."""

    def __init__(self, name):
        HallError.__init__(self, f"ring at name {name}")
        self.name = name


class BadEntry(HallError):
    """The entry at this place, counted from 0, cannot be done again."""

    def __init__(self, place):
        HallError.__init__(self, f"wrong entry at place {place}")
        self.place = place


class Contradiction(HallError):
    """This word is told both to be taken and not to be taken."""

    def __init__(self, word):
        HallError.__init__(self, f"contradiction at word {word}")
        self.word = word


class BadText(HallError):
    """A text is wrong at this line and column, both counted from 1."""

    def __init__(self, line, column):
        HallError.__init__(self, f"wrong text at line {line}, column {column}")
        self.line = line
        self.column = column
