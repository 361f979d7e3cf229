"""The errors of the program, each a class of its own directly under RowsError."""


class RowsError(ValueError):
    """The base class of all errors."""


class EmptyRow(RowsError):
    """A row from `first` with the until `end` bears no day."""

    def __init__(self, first, end):
        self.first = first
        self.end = end


class EmptyStretch(RowsError):
    """A stretch of days ends (`last`) before it begins (`first`)."""

    def __init__(self, first, last):
        self.first = first
        self.last = last


class Unordered(RowsError):
    """The entry at `index`, counted from 0, is not after the one before it."""

    def __init__(self, index):
        self.index = index


class Clash(RowsError):
    """Two rows, told as tuples, bear the same day."""

    def __init__(self, earlier, later):
        self.earlier = earlier
        self.later = later


class BadLine(RowsError):
    """The line of this number, counted from 1, is not well formed."""

    def __init__(self, number):
        self.number = number


class TooMany(RowsError):
    """There are more than `most` of something."""

    def __init__(self, most):
        self.most = most


class TooFar(RowsError):
    """The line of this number would need a number above the limit."""

    def __init__(self, number):
        self.number = number


class NoDay(RowsError):
    """The line of this number would give a row a missing first day."""

    def __init__(self, number):
        self.number = number


class OtherEnds(RowsError):
    """Two things that belong together have different ends."""

    def __init__(self, ends):
        self.ends = ends


class NotAllowed(RowsError):
    """The operation of this word does not allow the call."""

    def __init__(self, word):
        self.word = word


class Unknown(RowsError):
    """Nothing is known by this word or number."""

    def __init__(self, word):
        self.word = word


class Twice(RowsError):
    """The line of this number is changed by two changes."""

    def __init__(self, number):
        self.number = number


class TwoRows(RowsError):
    """Several rows, of which the first two are told, stand where one may."""

    def __init__(self, earlier, later):
        self.earlier = earlier
        self.later = later


class NothingWrong(RowsError):
    """The call is not wrong."""


class NoScene(RowsError):
    """There is no such scene."""


class HasHeads(RowsError):
    """A handler has head lines where it may have none."""


class BadTurns(RowsError):
    """The turns do not fit the lines of the two handlers."""

    def __init__(self, turns):
        self.turns = turns


class Refused(RowsError):
    """A run was refused at the call of this index, counted from 0."""

    def __init__(self, index, name, why):
        self.index = index
        self.name = name
        self.why = why
