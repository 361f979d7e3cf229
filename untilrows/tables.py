"""Plain tables: a value, or none, for each day."""

from untilrows.errors import EmptyStretch, Unordered


def stretch_of(at):
    """Return the first and the last day that an index means; the last one is None without end."""
    first, last = at if isinstance(at, tuple) else (at, at)
    if last is not None and last < first:
        raise EmptyStretch(first, last)
    return first, last


def place_of(runs, day):
    """Return the index of the first run that does not end before the day."""
    low, high = 0, len(runs)
    while low < high:
        middle = (low + high) // 2
        last = runs[middle][1]
        if last is not None and last < day:
            low = middle + 1
        else:
            high = middle
    return low


def runs_after(runs, day):
    """Return what is left of the runs if all days up to this one are cut off."""
    return [(max(first, day + 1), last, value)
            for first, last, value in runs if last is None or last > day]


def joined_runs(stretches):
    """Return the runs of ascending stretches, of which neighbours may have the same value."""
    runs = []
    for first, last, value in stretches:
        if value is None:
            continue
        if runs and runs[-1][1] == first - 1 and runs[-1][2] == value:
            runs[-1] = (runs[-1][0], last, value)
        else:
            runs.append((first, last, value))
    return runs


class Table:
    """A table from days to values."""

    def __init__(self):
        self._runs = []

    def __getitem__(self, at):
        place = place_of(self._runs, at)
        if place < len(self._runs) and self._runs[place][0] <= at:
            return self._runs[place][2]
        return None

    def __setitem__(self, at, worth):
        first, last = stretch_of(at)
        self._give(first, last, worth)

    def _give(self, first, last, value):
        # The runs that only touch the stretch take part, because they may have its value.
        low = place_of(self._runs, first - 1)
        high = len(self._runs) if last is None else place_of(self._runs, last + 1) + 1
        near = self._runs[low:high]
        # A run that begins ahead of the stretch reaches it here, so it is cut there.
        start = [(begin, first - 1, held) for begin, _, held in near if begin < first]
        rest = [] if last is None else runs_after(near, last)
        self._runs[low:high] = joined_runs([*start, (first, last, value), *rest])

    def __iter__(self):
        return iter(self._runs)

    def __len__(self):
        return len(self._runs)

    def __eq__(self, other):
        return isinstance(other, Table) and self._runs == other._runs

    def first_difference(self, other):
        """Return the least day that has not the same value in both tables, or None."""
        # Far enough back no day has a value, so the tables first differ where one of them changes.
        days = sorted([day for day, _ in self.changes() + other.changes()])
        for day in days:
            if self[day] != other[day]:
                return day
        return None

    def changes(self):
        """Return the tuples (day, value) of all days that differ from the day before."""
        found = []
        stop = None
        for first, last, value in self._runs:
            if stop is not None and stop < first:
                found.append((stop, None))
            found.append((first, value))
            stop = None if last is None else last + 1
        if stop is not None:
            found.append((stop, None))
        return found

    @staticmethod
    def of_changes(changes):
        """Make a table of tuples (day, value); each entry holds up to the next one."""
        for index in range(1, len(changes)):
            if changes[index][0] <= changes[index - 1][0]:
                raise Unordered(index)
        lasts = [day - 1 for day, _ in changes[1:]]
        stretches = [(day, last, value) for (day, value), last in zip(changes, [*lasts, None])]
        table = Table()
        table._runs = joined_runs(stretches)
        return table
