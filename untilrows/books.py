"""Books: sets of rows of which no two bear the same day."""

from untilrows.errors import Clash
from untilrows.rows import Ends, Row, bears, checked_until, last_of, stop_of, until_of
from untilrows.tables import Table, stretch_of


class Shape:
    """The shapes of books, each narrower than the one before it."""

    APART = "apart"
    SOLID = "solid"
    LASTING = "lasting"


def first_day(row):
    """Return the first day of a row, by which rows are sorted."""
    return row[0]


def checked_rows(rows, ends):
    """Return the rows sorted by first day; raise EmptyRow or Clash if they are no book."""
    for first, until, _ in rows:
        checked_until(first, until, ends)
    ordered = sorted(rows, key=first_day)
    # Of any two rows that clash, the earlier one clashes with its neighbour, too.
    for earlier, later in zip(ordered, ordered[1:]):
        if bears(earlier, later[0], ends):
            raise Clash(earlier, later)
    return ordered


def number_begun(rows, day):
    """Return how many of the ascending rows begin on the day or before it."""
    low, high = 0, len(rows)
    while low < high:
        middle = (low + high) // 2
        if rows[middle][0] <= day:
            low = middle + 1
        else:
            high = middle
    return low


def gaps_between(rows, ends):
    """Return the stretches between neighbouring rows that no row bears."""
    stops = [stop_of(until, ends) for _, until, _ in rows[:-1]]
    firsts = [first for first, _, _ in rows[1:]]
    return [(stop, first - 1) for stop, first in zip(stops, firsts) if stop < first]


def without_stretch(row, first, last, ends):
    """Return what is left of the row, as a list of rows, if the days of the stretch are cut out."""
    begin, until, value = row
    stop = stop_of(until, ends)
    left = []
    if begin < first:
        end = first if stop is None else min(stop, first)
        left.append((begin, until_of(end, ends), value))
    if last is not None and (stop is None or last + 1 < stop):
        left.append((max(begin, last + 1), until, value))
    return left


class Book:
    """A book of rows, which are told as tuples (first, until, value)."""

    def __init__(self, *rows, ends="last day"):
        self.ends = ends
        self._rows = checked_rows(list(rows), ends)

    @staticmethod
    def from_rows(rows, ends="last day"):
        """Make a book of a list of rows, given in any order."""
        return Book(*rows, ends=ends)

    @staticmethod
    def of(table, ends="last day"):
        """Make a book with one row for each run of the table."""
        rows = [(first, until_of(stop_of(last, Ends.LAST_DAY), ends), value) for first, last, value in table]
        return Book.from_rows(rows, ends)

    def __iter__(self):
        return iter(self._rows)

    def __len__(self):
        return len(self._rows)

    def __eq__(self, other):
        return isinstance(other, Book) and self.ends == other.ends and self._rows == other._rows

    def __getitem__(self, at):
        row = self._row_on(at)
        return None if row is None else row[2]

    def __setitem__(self, at, worth):
        first, last = stretch_of(at)
        # Of the rows that begin ahead of the stretch only the latest can reach into it.
        low = max(number_begun(self._rows, first - 1) - 1, 0)
        high = len(self._rows) if last is None else number_begun(self._rows, last)
        left = [part for row in self._rows[low:high] for part in without_stretch(row, first, last, self.ends)]
        if worth is not None:
            until = until_of(stop_of(last, Ends.LAST_DAY), self.ends)
            left.append((first, until, worth))
        self._rows[low:high] = sorted(left, key=first_day)

    def _row_on(self, day):
        begun = number_begun(self._rows, day)
        # The latest row that has begun is the only one that can still bear the day.
        if begun > 0 and bears(self._rows[begun - 1], day, self.ends):
            return self._rows[begun - 1]
        return None

    def bearer(self, day):
        """Return a new Row for the row that bears the day, or None."""
        row = self._row_on(day)
        if row is None:
            return None
        first, until, value = row
        return Row(first, until, value, self.ends)

    def table(self):
        """Return the table with the value that stands on each day."""
        table = Table()
        for first, until, value in self._rows:
            table[first, last_of(until, self.ends)] = value
        return table

    def turned(self, ends):
        """Return a new book of the same rows, written with these ends."""
        rows = [(first, until_of(stop_of(until, self.ends), ends), value) for first, until, value in self._rows]
        return Book.from_rows(rows, ends)

    def joined(self):
        """Return a new book in which rows that touch and have the same value are one row."""
        rows = []
        for first, until, value in self._rows:
            if rows and stop_of(rows[-1][1], self.ends) == first and rows[-1][2] == value:
                rows[-1] = (rows[-1][0], until, value)
            else:
                rows.append((first, until, value))
        return Book.from_rows(rows, self.ends)

    def gaps(self):
        """Yield the stretches (first, last) between neighbouring rows that no row bears."""
        for gap in gaps_between(self._rows, self.ends):
            yield gap

    def fits(self, shape):
        """Return True if the book has the shape."""
        if shape == Shape.APART:
            return True
        if gaps_between(self._rows, self.ends):
            return False
        return shape == Shape.SOLID or (len(self._rows) > 0 and self._rows[-1][1] is None)

    @property
    def narrowest(self):
        """The narrowest shape that the book has."""
        for shape in (Shape.LASTING, Shape.SOLID):
            if self.fits(shape):
                return shape
        return Shape.APART
