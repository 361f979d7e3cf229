"""Weavings: where the lines of two calls, taken in turn, do what neither of the two orders does.

The zones have the days of the two calls and some day on which the rows are looked at; behind them stand the
points of the rows of the book.
"""

from untilrows.rows import stop_of
from untilrows.spans import spans_of, stop_term, tallied, without_common
from untilrows.tracks import run, steps_of
from untilrows.zones import at_most, bounds_of, free_zone

DAY_ONE = (0, 0)
DAY_OTHER = (1, 0)
DAY = (2, 0)
SHARED = 3

# The labels of the new values of the two calls; a row of the book has the label 1.
NEW_ONE = 0
NEW_OTHER = -1
HELD = 1


def known_on(day):
    """Return what is known in a call with one day."""
    return {"d": day, "e": None, "empty": None}


def woven(ones, others, turns):
    """Return the steps of the two lists in the order of the turns."""
    found = []
    place_one, place_other = 0, 0
    for turn in turns:
        if turn == "1":
            found.append(ones[place_one])
            place_one += 1
        else:
            found.append(others[place_other])
            place_other += 1
    return found


def scene_of(count, endless, ends):
    """Return the zone and the rows of books of one row or none."""
    zone = free_zone(SHARED)
    if count == 0:
        return zone, []
    if endless:
        return zone.widened(), [((SHARED, 0), None, HELD)]
    zone = zone.widened().widened().narrowed(SHARED, SHARED + 1, stop_of(0, ends) - 1)
    return zone, [((SHARED, 0), (SHARED + 1, 0), HELD)]


def unlike_on_day(zone, ones, others, ends):
    """Return the zones in which some label is not shown equally often by both lists of rows on the day."""
    left, rest = without_common(zone, ones, others)
    found = []
    for label in (NEW_ONE, NEW_OTHER, HELD):
        spans = [*spans_of([row for row in left if row[2] == label], ends, 1),
                 *spans_of([row for row in rest if row[2] == label], ends, -1)]
        if spans:
            found.extend([part for part, total in tallied(zone, DAY, spans) if total != 0])
    return found


class Scene:
    """Books of one row or none, with what the two orders of the calls leave where neither of them fails."""

    def __init__(self, count, endless, ends, ones, others):
        self.ends = ends
        self.zone, self.rows = scene_of(count, endless, ends)
        self.ordered = []
        for zone, left in run([*ones, *others], self.zone, self.rows)[0]:
            for part, rest in run([*others, *ones], zone, self.rows)[0]:
                self.ordered.append((part, left, rest))

    def unlike(self, steps):
        """Return the zones in which the steps fail, and tuples of the zone and the rows of all three ways."""
        failing, found = [], []
        for zone, left, rest in self.ordered:
            ends, failures = run(steps, zone, self.rows)
            failing.extend([part for part, _ in failures])
            found.extend([(part, left, rest, rows) for part, rows in ends])
        return failing, found

    def unsound(self, steps):
        """Return the zones in which the steps fail, or leave what neither order leaves on the day."""
        found, states = self.unlike(steps)
        for zone, left, rest, rows in states:
            for part in unlike_on_day(zone, left, rows, self.ends):
                found.extend(unlike_on_day(part, rest, rows, self.ends))
        return found

    def halves(self, steps):
        """Return the zones in which the first order, and those in which the second order, leaves something else."""
        first, second = [], []
        for zone, left, rest, rows in self.unlike(steps)[1]:
            first.extend(unlike_on_day(zone, left, rows, self.ends))
            second.extend(unlike_on_day(zone, rest, rows, self.ends))
        return first, second


def are_apart(zone, other):
    """Return True if the two zones have no days of the calls in common, whatever their rows are."""
    for left in range(SHARED):
        for right in range(SHARED):
            if zone.limits[left][right] + other.limits[right][left] < 0:
                return True
    return False


def bounded(zone, bounds, shift):
    """Return the zone with the bounds of another one, whose rows have points so much further on, or None."""
    for left, right, most in bounds:
        if zone is None:
            break
        left = left if left < SHARED else left + shift
        right = right if right < SHARED else right + shift
        zone = zone.narrowed(left, right, most)
    return zone


def both_rows(zone, other, ends):
    """Return the zone of a closed row and, behind it, the row of the other zone (or None), and the two rows."""
    if are_apart(zone, other):
        return None, []
    # The points of the later row stand behind the two of the closed row.
    shift = len(zone.limits) - SHARED
    row = ((SHARED, 0), (SHARED + 1, 0), None)
    first, until = (SHARED + shift, 0), None
    if len(other.limits) > SHARED + 1:
        until = (SHARED + shift + 1, 0)
    for _ in range(len(other.limits) - SHARED):
        zone = zone.widened()
    zone = at_most(zone, stop_term(row, ends), first)
    return bounded(zone, bounds_of(other), shift), [row, (first, until, None)]


def without_adds(steps):
    """Return the steps that matter for the rows of the book."""
    return [step for step in steps if step[0].kind != "add"]


class Weaving:
    """Two handlers without head lines, each called with one day, whose lines take turns."""

    def __init__(self, one, other):
        self.ends = one.ends
        self.ones = steps_of(one.statements, known_on(DAY_ONE), NEW_ONE)
        self.others = steps_of(other.statements, known_on(DAY_OTHER), NEW_OTHER)
        self.nothing = Scene(0, False, self.ends, self.ones, self.others)
        self.single = [Scene(1, endless, self.ends, self.ones, self.others) for endless in (False, True)]
        self.alone = [Scene(1, endless, self.ends, without_adds(self.ones), without_adds(self.others))
                      for endless in (False, True)]

    def unsound(self, turns):
        """Return a zone and rows of a smallest book for which the weave is not sound, or None twice."""
        steps = woven(self.ones, self.others, turns)
        for scene in [self.nothing, *self.single]:
            zones = scene.unsound(steps)
            if zones:
                return zones[0], scene.rows
        return self.unsound_pair(without_adds(steps))

    def unsound_pair(self, steps):
        """Return what `unsound` does, for books of two rows of which none alone does it."""
        closed, endless = [scene.halves(steps) for scene in self.alone]
        pairs = [(closed[0], [*closed[1], *endless[1]]), (closed[1], [*closed[0], *endless[0]])]
        for ahead, behind in pairs:
            for zone in ahead:
                for other in behind:
                    both, rows = both_rows(zone, other, self.ends)
                    allowed = self.allowed(both)
                    if allowed is not None:
                        return allowed, rows
        return None, None

    def allowed(self, zone):
        """Return the part of the zone where the new values, too, let neither order fail, or None."""
        for part, _, _ in self.nothing.ordered:
            found = bounded(zone, bounds_of(part), 0)
            if found is not None:
                return found
        return None
