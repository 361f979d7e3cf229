"""Operations: what a call should do to the plain table of a book."""

from untilrows.errors import NotAllowed, Unknown
from untilrows.rows import bears, last_of, stop_of


def name_nothing(book, d):
    """Return the rows that an operation names which names none."""
    return []


def name_next(book, d):
    """Return the row with the least first day after d, in a list, or no row."""
    return [row for row in book if row[0] > d][:1]


def name_bearer(book, d):
    """Return the row that bears d, in a list, or no row."""
    return [row for row in book if bears(row, d, book.ends)]


def name_bearer_and_before(book, d):
    """Return the row before the one that bears d, if there is one, and that one; or no row."""
    rows = list(book)
    for index, row in enumerate(rows):
        if bears(row, d, book.ends):
            return rows[max(index - 1, 0):index + 1]
    return []


def name_border(book, d):
    """Return the row that ends on the day before d and the row that begins on d, or no row."""
    rows = list(book)
    for earlier, later in zip(rows, rows[1:]):
        if stop_of(earlier[1], book.ends) == d and later[0] == d:
            return [earlier, later]
    return []


# In what follows an operation gives a value, or None, to one stretch (first, last, value) at most. The
# functions return a list of that stretch, and None if the call is not allowed.

def give_set(named, ends, d, e, value):
    """All days from d on have the value."""
    return [(d, None, value)]


def give_end(named, ends, d, e, value):
    """No day from d on has a value."""
    return [(d, None, None)]


def give_fill(named, ends, d, e, value):
    """The days from d up to the next row have the value."""
    last = named[0][0] - 1 if named else None
    return [(d, last, value)]


def give_between(named, ends, d, e, value):
    """The days from d to e have the value."""
    return [(d, e, value)] if d <= e else None


def give_clear(named, ends, d, e, value):
    """The days from d to e have no value."""
    return [(d, e, None)] if d <= e else None


def give_take(named, ends, d, e, value):
    """The days of the row that bears d have no value."""
    if not named:
        return None
    first, until, _ = named[0]
    return [(first, last_of(until, ends), None)]


def give_on(named, ends, d, e, value):
    """The row before the one that bears d goes on up to the end of that one."""
    if len(named) < 2:
        return give_take(named, ends, d, e, value)
    before, bearer = named
    return [(stop_of(before[1], ends), last_of(bearer[1], ends), before[2])]


def give_move(named, ends, d, e, value):
    """The border between the two rows moves from d to e."""
    if not named:
        return None
    earlier, later = named
    if e <= earlier[0] or not (e < d or bears(later, e, ends)):
        return None
    if e < d:
        return [(e, d - 1, later[2])]
    return [(d, e - 1, earlier[2])] if e > d else []


# For each word: whether it needs a second day, and how many rows it names at most.
FACTS = {
    "set": (False, 0),
    "end": (False, 0),
    "fill": (False, 1),
    "between": (True, 0),
    "clear": (True, 0),
    "take": (False, 1),
    "give": (False, 2),
    "move": (True, 2),
}

NAMERS = {
    "set": name_nothing,
    "end": name_nothing,
    "fill": name_next,
    "between": name_nothing,
    "clear": name_nothing,
    "take": name_bearer,
    "give": name_bearer_and_before,
    "move": name_border,
}

GIVERS = {
    "set": give_set,
    "end": give_end,
    "fill": give_fill,
    "between": give_between,
    "clear": give_clear,
    "take": give_take,
    "give": give_on,
    "move": give_move,
}


class Operation:
    """One of the eight plain operations."""

    WORDS = ("set", "end", "fill", "between", "clear", "take", "give", "move")

    def __init__(self, word):
        two_days, named = FACTS[word]
        self.word = word
        self.two_days = two_days
        self.named = named

    def named_rows(self, book, d):
        """Return the rows of the book that the operation names, in a list."""
        namer = NAMERS[self.word]
        return namer(book, d)

    def _given(self, book, d, e, value):
        if (e is not None) != self.two_days:
            return None
        giver = GIVERS[self.word]
        return giver(self.named_rows(book, d), book.ends, d, e, value)

    def allows(self, book, d, e=None):
        """Return True if the operation allows the call on the book."""
        return self._given(book, d, e, 0) is not None

    def due(self, book, d, e=None, value=0):
        """Return the table that the operation leaves; raise NotAllowed if it does not allow the call."""
        given = self._given(book, d, e, value)
        if given is None:
            raise NotAllowed(self.word)
        table = book.table()
        for first, last, worth in given:
            table[first, last] = worth
        return table


def operation(word):
    """Return the operation of the word; raise Unknown if there is none."""
    if word not in Operation.WORDS:
        raise Unknown(word)
    return Operation(word)
