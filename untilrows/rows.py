"""Rows: a first day, an until and a value, with two habits of writing the end."""

from untilrows.errors import EmptyRow


class Ends:
    """The two habits of writing the end of a row."""

    LAST_DAY = "last day"
    NEXT_DAY = "next day"


def stop_of(until, ends):
    """Return the first day after a row with this until, None for an open row."""
    if until is None or ends == Ends.NEXT_DAY:
        return until
    return until + 1


def until_of(stop, ends):
    """Return the until of a row that stops before this day, None for an open row."""
    if stop is None or ends == Ends.NEXT_DAY:
        return stop
    return stop - 1


def last_of(until, ends):
    """Return the last day of a row with this until, None for an open row."""
    return until_of(stop_of(until, ends), Ends.LAST_DAY)


def bears(row, day, ends):
    """Return True if the row, told as a tuple, bears the day."""
    stop = stop_of(row[1], ends)
    return row[0] <= day and (stop is None or day < stop)


def bears_no_day(first, until, ends):
    """Return True if a row of these fields is an empty row."""
    stop = stop_of(until, ends)
    return stop is not None and stop <= first


def checked_until(first, until, ends):
    """Return the until, or raise EmptyRow if a row with it bears no day."""
    if bears_no_day(first, until, ends):
        raise EmptyRow(first, until)
    return until


class Row:
    """A row of at least one day."""

    def __init__(self, first, until, value, ends="last day"):
        self.first = first
        self._until = checked_until(first, until, ends)
        self.value = value
        self.ends = ends

    @property
    def until(self):
        """The end as it is written, None for an open row."""
        return self._until

    @until.setter
    def until(self, value):
        self._until = checked_until(self.first, value, self.ends)

    @property
    def stop(self):
        """The first day after the row, None for an open row."""
        return stop_of(self._until, self.ends)

    def close(self, until):
        """Give the row a new until; raise EmptyRow if it would bear no day."""
        self.until = until

    def turned(self, ends):
        """Return a new row of the same days, written with these ends."""
        return Row(self.first, until_of(self.stop, ends), self.value, ends)

    def __add__(self, other):
        until = None if self._until is None else self._until + other
        return Row(self.first + other, until, self.value, self.ends)

    def __radd__(self, other):
        return self + other

    def __sub__(self, other):
        return self.first - other.first

    def __contains__(self, x):
        return bears((self.first, self._until), x, self.ends)

    def __eq__(self, other):
        return (isinstance(other, Row) and self.first == other.first and self._until == other._until
                and self.value == other.value and self.ends == other.ends)
