"""Desks: a book that is changed by handlers under names, in runs that can be taken back."""

from untilrows.books import Book
from untilrows.errors import Clash, EmptyRow, NoDay, Refused


def book_behind(handlers, book, index, call):
    """Return the book that the call leaves; raise Refused if it cannot be made."""
    name, d, e, value = call
    if name not in handlers:
        raise Refused(index, name, "unknown")
    handler = handlers[name]
    if handler.ends != book.ends:
        raise Refused(index, name, "ends")
    try:
        return Book.from_rows(handler(book, d, e, value), book.ends)
    except NoDay:
        raise Refused(index, name, "fails") from None
    except EmptyRow:
        raise Refused(index, name, "empty") from None
    except Clash:
        raise Refused(index, name, "clash") from None


class Desk:
    """A book and the handlers, under names, that may change it."""

    def __init__(self, book, **handlers):
        self._ends = book.ends
        self._rows = list(book)
        self._handlers = dict(handlers)
        self._made = 0
        # What undo goes back to: the rows, and the number of the calls in force, ahead of each run.
        self._past = []

    @property
    def kept(self):
        """A new book, equal to the one that the desk keeps."""
        return Book.from_rows(self._rows, self._ends)

    @property
    def done(self):
        """The number of the calls that are in force."""
        return self._made

    def run(self, *calls):
        """Make the calls, tuples (name, d, e, value), one after another; raise Refused if one cannot be made."""
        book = self.kept
        for index, call in enumerate(calls):
            book = book_behind(self._handlers, book, index, call)
        self._past.append((self._rows, self._made))
        self._rows = list(book)
        self._made += len(calls)

    def call(self, name, d, e=None, value=0):
        """Make one call; raise Refused if it cannot be made."""
        self.run((name, d, e, value))

    def undo(self):
        """Take back the latest run that is in force; return False if there is none."""
        if not self._past:
            return False
        self._rows, self._made = self._past.pop()
        return True

    def names(self):
        """Return the names of the handlers in ascending order."""
        return sorted(self._handlers)
