"""Frames: a few rows that are kept of a book of any size, with all that must be known of the other rows.

The kept rows are those that an operation names, those that the head lines pick, and one more. A row is
told as in the tracks; its label is the point of its first day, and the point behind it is its until.
"""

from untilrows.books import Book, Shape
from untilrows.rows import stop_of
from untilrows.tracks import split
from untilrows.zones import at_most, later


class Demand:
    """The tests may hold for no row in a scope: `before` or `after` the row labelled `place`, or `all`."""

    def __init__(self, scope, place, checks, known):
        self.scope = scope
        self.place = place
        self.checks = checks
        self.known = known


class Frame:
    """Kept rows in ascending order; no row may be put ahead of the row labelled `barred`."""

    def __init__(self, zone, rows, ends, demands, barred=None):
        self.zone = zone
        self.rows = rows
        self.ends = ends
        self.demands = demands
        self.barred = barred

    def inside(self, zone):
        """Return the frame in another zone."""
        return Frame(zone, self.rows, self.ends, self.demands, self.barred)

    def guarded(self, barred):
        """Return the frame with no place ahead of the row labelled so."""
        return Frame(self.zone, self.rows, self.ends, self.demands, barred)

    def demanding(self, scope, place, checks, known):
        """Return the frames in which the tests hold for no row in the scope."""
        demand = Demand(scope, place, checks, known)
        grown = Frame(self.zone, self.rows, self.ends, [*self.demands, demand], self.barred)
        found = [grown]
        for index, row in enumerate(self.rows):
            if row[2] != place and in_scope(demand, index, self.rows):
                found = [frame.inside(zone) for frame in found
                         for zone in split(frame.zone, checks, row, known)[1]]
        return found

    def places(self):
        """Return the indexes at which a row can be put."""
        found = []
        for index in range(len(self.rows) + 1):
            if index < len(self.rows) and self.rows[index][2] == self.barred:
                continue
            if index > 0 and self.rows[index - 1][1] is None:
                continue
            found.append(index)
        return found

    def placed(self, index, endless):
        """Return tuples (frame, row): the frames with a new row, of any days, at the index."""
        zone, row = new_row(self.zone, endless)
        reach = stop_of(0, self.ends)
        if row[1] is not None:
            zone = at_most(zone, row[0], row[1], reach - 1)
        if index > 0:
            zone = at_most(zone, self.rows[index - 1][1], row[0], -reach)
        if index < len(self.rows):
            zone = at_most(zone, row[1], self.rows[index][0], -reach)
        if zone is None:
            return []
        rows = [*self.rows[:index], row, *self.rows[index:]]
        return [(Frame(part, rows, self.ends, self.demands, self.barred), row)
                for part in met(zone, row, index, self.rows, self.demands)]

    def grown(self):
        """Return tuples (frame, row): the frames with one new row, wherever it can be put."""
        found = []
        for index in self.places():
            found.extend(self.placed(index, False))
            if index == len(self.rows):
                found.extend(self.placed(index, True))
        return found

    def with_row(self, checks, known):
        """Return tuples (frame, row): the frames with a row, kept or new, for which the tests hold."""
        found = []
        for frame, row in [*[(self, row) for row in self.rows], *self.grown()]:
            zone = split(frame.zone, checks, row, known)[0]
            if zone is not None:
                found.append((frame.inside(zone), row))
        return found


def new_row(zone, endless):
    """Return the zone with the points of a new row, and the row."""
    point = len(zone.limits)
    if endless:
        return zone.widened(), ((point, 0), None, point)
    return zone.widened().widened(), ((point, 0), (point + 1, 0), point)


def in_scope(demand, index, rows):
    """Return True if a row that is put at the index is in the scope of the demand."""
    if demand.scope == "all":
        return True
    is_before = index <= [row[2] for row in rows].index(demand.place)
    return is_before == (demand.scope == "before")


def met(zone, row, index, rows, demands):
    """Return the zones in which the row, put at the index, meets all demands."""
    zones = [zone]
    for demand in demands:
        if in_scope(demand, index, rows):
            zones = [part for held in zones for part in split(held, demand.checks, row, demand.known)[1]]
    return zones


def headed(frame, head, known):
    """Return tuples (frame, known behind the head line) for all that the head line can pick."""
    if head.kind == "flag":
        found = [(up, {**known, head.name: True}) for up, _ in frame.with_row(head.checks, known)]
    else:
        found = []
        scope = "before" if head.pick == "least" else "after"
        for holding, row in frame.with_row(head.checks, known):
            read = row[0] if head.field == "first" else row[1]
            found.extend([(picked, {**known, head.name: read})
                          for picked in holding.demanding(scope, row[2], head.checks, known)])
    nothing = False if head.kind == "flag" else None
    return found + [(none, {**known, head.name: nothing})
                    for none in frame.demanding("all", None, head.checks, known)]


def filled(frame, zone, shape):
    """Return tuples (zone, rows) of the books of the shape with the kept rows and few others.

    Days between two kept rows that no kept row bears are those of one other row.
    """
    if shape == Shape.APART:
        return [(zone, frame.rows)]
    states = [(zone, [])]
    for index, row in enumerate(frame.rows):
        states = [state for part, rows in states for state in filled_ahead(frame, part, rows, index)]
        states = [(part, [*rows, row]) for part, rows in states]
    if shape == Shape.LASTING and (not frame.rows or frame.rows[-1][1] is not None):
        states = [state for part, rows in states for state in filled_behind(frame, part, rows)]
    return states


def filled_ahead(frame, zone, rows, index):
    """Return the states without and with another row between the kept row at the index and those before."""
    if index == 0:
        return [(zone, rows)]
    row = frame.rows[index]
    reach = stop_of(0, frame.ends)
    touching = at_most(zone, row[0], rows[-1][1], reach)
    found = [] if touching is None else [(touching, rows)]
    parted = None if row[2] == frame.barred else at_most(zone, rows[-1][1], row[0], -reach - 1)
    if parted is not None:
        other = (later(rows[-1][1], reach), later(row[0], -reach), None)
        found.extend([(part, [*rows, other]) for part in met(parted, other, index, frame.rows, frame.demands)])
    return found


def filled_behind(frame, zone, rows):
    """Return the states with an open row behind all others."""
    if rows:
        other = (later(rows[-1][1], stop_of(0, frame.ends)), None, None)
    else:
        zone, other = new_row(zone, True)
    index = len(frame.rows)
    return [(part, [*rows, other]) for part in met(zone, other, index, frame.rows, frame.demands)]


class Search:
    """Keeps the smallest book of the shape that was found in some frame."""

    def __init__(self, shape):
        self.shape = shape
        self.count = None
        self.book = None
        self.days = None

    def wants(self, count):
        """Return True if a book of so many rows would be smaller than the one that was found."""
        return self.count is None or count < self.count

    def offer(self, frame, zone):
        """Look at the books of the frame with days in the zone."""
        if not self.wants(len(frame.rows)):
            return
        for part, rows in filled(frame, zone, self.shape):
            if self.wants(len(rows)):
                self.count = len(rows)
                self.days = part.solution()
                self.book = book_of(rows, self.days, frame.ends)


def book_of(rows, days, ends):
    """Return the book of the rows, with the values 1, 2, 3 and so on."""
    found = []
    for value, (first, until, _) in enumerate(rows, start=1):
        end = None if until is None else days[until[0]] + until[1]
        found.append((days[first[0]] + first[1], end, value))
    return Book.from_rows(found, ends)
