"""The errors that the package raises. Their attributes are the very values that were passed."""


class RecallError(ValueError):
    """The base class of all errors of the package."""


class BadMachine(RecallError):
    """An argument of a machine is not right; where tells which one."""

    def __init__(self, where):
        self.where = where


class BadLine(RecallError):
    """The line with this number is no line of a machine's written form."""

    def __init__(self, number):
        self.number = number


class BadText(RecallError):
    """A value is not a text over the alphabet."""

    def __init__(self, text):
        self.text = text


class Guesses(RecallError):
    """A plain machine was needed, but this key of the machine has several acts."""

    def __init__(self, key):
        self.key = key


class BadStanding(RecallError):
    """A value is not a standing of the machine and the text."""

    def __init__(self, standing):
        self.standing = standing


class BadSurface(RecallError):
    """A value is not a surface of the machine and the text."""

    def __init__(self, surface):
        self.surface = surface


class TooLong(RecallError):
    """What was asked for has this length, which is too long to be written out."""

    def __init__(self, length):
        self.length = length


class BadSplice(RecallError):
    """A text can't be edited like this."""

    def __init__(self, place, removed, letters):
        self.place = place
        self.removed = removed
        self.letters = letters


class NothingToUndo(RecallError):
    """There is no splice that could be taken back."""


class BadDeed(RecallError):
    """The item with this index is not a deed."""

    def __init__(self, index):
        self.index = index


class BadTree(RecallError):
    """The procedure with this index is not right."""

    def __init__(self, index):
        self.index = index


class DoubleName(RecallError):
    """Two procedures have this name."""

    def __init__(self, name):
        self.name = name


class NoSuchProcedure(RecallError):
    """No procedure has this name."""

    def __init__(self, name):
        self.name = name


class BadToken(RecallError):
    """The token at this place can't stand there."""

    def __init__(self, place):
        self.place = place


class UnlikeLetters(RecallError):
    """Two machines have these alphabets, which differ."""

    def __init__(self, first, second):
        self.first = first
        self.second = second


class BadCode(RecallError):
    """The item of a code with this index is not right."""

    def __init__(self, index):
        self.index = index


class BadPaper(RecallError):
    """The line of a paper with this number is not right."""

    def __init__(self, place):
        self.place = place


class BadGrammar(RecallError):
    """The pair of a grammar with this index is not right."""

    def __init__(self, index):
        self.index = index


class NoSuchProgram(RecallError):
    """The library has no program with this name."""

    def __init__(self, name):
        self.name = name
