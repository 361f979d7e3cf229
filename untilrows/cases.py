"""Cases: the frames of the calls that an operation allows, with what it gives to which days.

In a case the operation gives one label to the days of one stretch, and leaves all others as they are.
"""

from untilrows.frames import Frame
from untilrows.lines import Check
from untilrows.spans import stop_term
from untilrows.tracks import NEW
from untilrows.zones import at_most, free_zone, later

# The days of the call.
D = (0, 0)
E = (1, 0)

# The label of days without a value.
NOBODY = None


class Case:
    """A frame in which the days from `begin` up to the day before `end` (a term, or None) have the label."""

    def __init__(self, frame, begin, end, label):
        self.frame = frame
        self.begin = begin
        self.end = end
        self.label = label


def set_cases(frame):
    """All days from d on have the value."""
    return [Case(frame, D, None, NEW)]


def end_cases(frame):
    """No day from d on has a value."""
    return [Case(frame, D, None, NOBODY)]


def fill_cases(frame):
    """The days from d up to the next row have the value."""
    begins_later = (Check("first", ">", ("d", 0), False),)
    known = {"d": D}
    found = [Case(none, D, None, NEW) for none in frame.demanding("all", None, begins_later, known)]
    for other, row in frame.with_row(begins_later, known):
        found.extend([Case(first, D, row[0], NEW)
                      for first in other.demanding("before", row[2], begins_later, known)])
    return found


def ordered(frame):
    """Return the frame with d <= e in a list, or no frame."""
    zone = at_most(frame.zone, D, E)
    return [] if zone is None else [frame.inside(zone)]


def between_cases(frame):
    """The days from d to e have the value."""
    return [Case(part, D, later(E, 1), NEW) for part in ordered(frame)]


def clear_cases(frame):
    """The days from d to e have no value."""
    return [Case(part, D, later(E, 1), NOBODY) for part in ordered(frame)]


def bearing(frame):
    """Return tuples (frame, row) with a new row that bears d."""
    found = []
    for other, row in frame.grown():
        zone = at_most(other.zone, row[0], D)
        if row[1] is not None:
            zone = at_most(zone, D, stop_term(row, frame.ends), -1)
        if zone is not None:
            found.append((other.inside(zone), row))
    return found


def take_cases(frame):
    """The days of the row that bears d have no value."""
    return [Case(part, row[0], stop_term(row, frame.ends), NOBODY) for part, row in bearing(frame)]


def give_cases(frame):
    """The row before the one that bears d, if there is one, goes on up to the end of that one."""
    found = []
    for part, row in bearing(frame):
        end = stop_term(row, frame.ends)
        found.append(Case(part.guarded(row[2]), row[0], end, NOBODY))
        found.extend([Case(both.guarded(row[2]), stop_term(before, frame.ends), end, before[2])
                      for both, before in part.placed(0, False)])
    return found


def move_cases(frame):
    """The border between the two rows that touch on d moves to e."""
    found = []
    for part, row in bearing(frame):
        for both, before in part.placed(0, False):
            zone = at_most(at_most(both.zone, D, row[0]), D, stop_term(before, frame.ends))
            zone = at_most(zone, before[0], E, -1)
            if row[1] is not None:
                zone = at_most(zone, E, stop_term(row, frame.ends), -1)
            back, on = at_most(zone, E, D), at_most(zone, D, E, -1)
            if back is not None:
                found.append(Case(both.inside(back), E, D, row[2]))
            if on is not None:
                found.append(Case(both.inside(on), D, E, before[2]))
    return found


CASES = {
    "set": set_cases,
    "end": end_cases,
    "fill": fill_cases,
    "between": between_cases,
    "clear": clear_cases,
    "take": take_cases,
    "give": give_cases,
    "move": move_cases,
}


def bare_frame(ends, two_days):
    """Return the frame of calls with one day or two, without rows."""
    return Frame(free_zone(2 if two_days else 1), [], ends, [])


def cases_of(operation, ends):
    """Return the cases of the operation; each call that it allows is in one of them."""
    build = CASES[operation.word]
    return build(bare_frame(ends, operation.two_days))
