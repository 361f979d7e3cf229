"""Pieces: what a handler does to all books of so many rows, told by bounds of their days."""

from untilrows.books import Shape
from untilrows.errors import NoScene, TooMany
from untilrows.rows import stop_of
from untilrows.tracks import Walk, split, steps_of
from untilrows.zones import Zone, bounds_of, free_zone

MOST_ROWS = 6


class Piece:
    """The scenes that keep all bounds, and what the handler leaves in each of them, or where it fails."""

    def __init__(self, bounds, rows, fails):
        self.bounds = bounds
        self.rows = rows
        self.fails = fails

    def admits(self, days):
        """Return True if all bounds hold for the days, a dict from points to days."""
        return all([days[left] - days[right] <= most for left, right, most in self.bounds])


def point_names(count, open_last, two_days):
    """Return the points of the scenes."""
    names = ["d", "e"] if two_days else ["d"]
    for number in range(1, count + 1):
        names.append(f"first {number}")
        if number < count or not open_last:
            names.append(f"until {number}")
    return names


def scene_rows(names, count):
    """Return the rows of the scenes, labelled with their numbers."""
    places = {name: (place, 0) for place, name in enumerate(names)}
    return [(places[f"first {number}"], places.get(f"until {number}"), number) for number in range(1, count + 1)]


def scene_zone(names, rows, shape, ends):
    """Return the zone of the scenes, with a trail that is empty."""
    zone = free_zone(len(names))
    # The stop of a row is its until plus this.
    reach = stop_of(0, ends)
    for first, until, _ in rows:
        if until is not None:
            zone = zone.narrowed(first[0], until[0], reach - 1)
    for earlier, row in zip(rows, rows[1:]):
        zone = zone.narrowed(earlier[1][0], row[0][0], -reach)
        if shape != Shape.APART:
            zone = zone.narrowed(row[0][0], earlier[1][0], reach)
    # All scenes keep these bounds, so no piece needs to tell them.
    return Zone(zone.limits, None)


def picked(head, zone, rows, known):
    """Return tuples (zone, row): where the head line picks which row, or None."""
    found = []
    others = [zone]
    for row in (rows[::-1] if head.pick == "greatest" else rows):
        splits = [split(part, head.checks, row, known) for part in others]
        found.extend([(holds, row) for holds, _ in splits if holds is not None])
        others = [part for _, fails in splits for part in fails]
    return found + [(part, None) for part in others]


def read_by(head, row, known):
    """Return what is known behind the head line if it picks the row, or None."""
    if head.kind == "flag":
        return {**known, head.name: row is not None}
    if row is None:
        return {**known, head.name: None}
    return {**known, head.name: row[0] if head.field == "first" else row[1]}


class PieceWalk(Walk):
    """A walk that makes a piece of each zone as soon as it is done with it, for there may be many of them."""

    def __init__(self, steps, zone, rows, names):
        Walk.__init__(self, steps, zone, rows)
        self.points = names
        self.made = []
        self.told_bounds = {}
        self.told_rows = {}

    def ended(self, zone, rows):
        """Make the piece of the zone in which the rows are left."""
        self.made.append(Piece(self.bounds_in(zone), [self.told_row(row) for row in rows], None))

    def failed(self, zone, number):
        """Make the piece of the zone in which the call fails."""
        self.made.append(Piece(self.bounds_in(zone), [], number))

    def bounds_in(self, zone):
        """Return the bounds of the zone, told with the names of the points."""
        found = []
        for bound in bounds_of(zone):
            if bound not in self.told_bounds:
                left, right, most = bound
                self.told_bounds[bound] = (self.points[left], self.points[right], most)
            found.append(self.told_bounds[bound])
        return found

    def told_row(self, row):
        """Return the row, told with the names of the points."""
        if row not in self.told_rows:
            first, until, label = row
            end = None if until is None else (self.points[until[0]], until[1])
            self.told_rows[row] = ((self.points[first[0]], first[1]), end, label)
        return self.told_rows[row]


def pieces(handler, count, *, shape="apart", open_last=False, two_days=False):
    """Return pieces such that each scene of the handler is in just one of them."""
    if (count == 0 and open_last) or (shape == Shape.LASTING and not open_last):
        raise NoScene()
    if count > MOST_ROWS:
        raise TooMany(MOST_ROWS)
    names = point_names(count, open_last, two_days)
    rows = scene_rows(names, count)
    starts = [(scene_zone(names, rows, shape, handler.ends),
               {"d": (0, 0), "e": (1, 0) if two_days else None, "empty": None})]
    for head in handler.head_lines:
        starts = [(part, read_by(head, row, known)) for zone, known in starts
                  for part, row in picked(head, zone, rows, known)]
    found = []
    for zone, known in starts:
        walk = PieceWalk(steps_of(handler.statements, known), zone, rows, names)
        walk.walk()
        found.extend(walk.made)
    return found
