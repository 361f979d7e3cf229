"""Verdicts: whether a handler is right, and whether two handlers do the same."""

from untilrows.books import Shape
from untilrows.cases import D, E, bare_frame, cases_of
from untilrows.errors import OtherEnds, TooMany
from untilrows.faults import fault_of
from untilrows.frames import Search
from untilrows.likeness import unlike_zones
from untilrows.wrongs import all_headed, steps_for, wrong_zones

MOST_HEADS = 2


class Verdict:
    """The answer to a question; where it is no, a smallest book tells why."""

    def __init__(self, holds, count=None, book=None, d=None, e=None, fault=None):
        self.holds = holds
        self.count = count
        self.book = book
        self.d = d
        self.e = e
        self.fault = fault

    def __bool__(self):
        return bool(self.holds)


def known_days(two_days):
    """Return what is known ahead of all head lines."""
    return {"d": D, "e": E if two_days else None, "empty": None}


def called_days(search, two_days):
    """Return the days d and e of the call that was found."""
    return search.days[0], search.days[1] if two_days else None


def kept_count(state):
    """Return the number of the kept rows of the frame that stands first in the tuple."""
    return len(state[0].rows)


def followed(search, frame):
    """Return tuples (frame, row) for each value that may be wrong; the row is None for the new value."""
    found = [(frame, None), *[(frame, row) for row in frame.rows]]
    return found + frame.grown() if search.wants(len(frame.rows) + 1) else found


def search_wrong(search, case, frame, row, steps):
    """Offer the search the wrong calls in the frame, as far as they concern the value of the row."""
    if search.wants(len(frame.rows)):
        for zone in wrong_zones(case, frame, row, steps):
            search.offer(frame, zone)
            if not search.wants(len(frame.rows)):
                break


def search_unlike(search, frame, row, steps, by):
    """Offer the search the calls in the frame that tell two handlers apart by the value of the row."""
    if search.wants(len(frame.rows)):
        for zone in unlike_zones(frame, row, steps, by):
            search.offer(frame, zone)
            if not search.wants(len(frame.rows)):
                break


def judge(handler, operation, *, shape="apart"):
    """Return whether the handler is right for the operation and all books of the shape."""
    search = Search(shape)
    states = []
    for case in cases_of(operation, handler.ends):
        states.extend([(frame, known, case) for frame, known
                       in all_headed(case.frame, handler, known_days(operation.two_days))])
    # Small books first, so that a greater one is not looked at behind a smaller one.
    for frame, known, case in sorted(states, key=kept_count):
        for part, row in followed(search, frame):
            search_wrong(search, case, part, row, steps_for(handler, row, known))
    if search.book is None:
        return Verdict(True)
    d, e = called_days(search, operation.two_days)
    return Verdict(False, search.count, search.book, d, e, fault_of(handler, operation, search.book, d, e))


def widest(handler, operation):
    """Return the widest shape for which the handler is right, or None."""
    for shape in (Shape.APART, Shape.SOLID, Shape.LASTING):
        if judge(handler, operation, shape=shape).holds:
            return shape
    return None


def alike(one, other, *, shape="apart", by="days", two_days=False):
    """Return whether the two handlers do the same to all books of the shape."""
    if one.ends != other.ends:
        raise OtherEnds(other.ends)
    if one.heads + other.heads > MOST_HEADS:
        raise TooMany(MOST_HEADS)
    search = Search(shape)
    known = known_days(two_days)
    states = [(both, of_one, of_other)
              for frame, of_one in all_headed(bare_frame(one.ends, two_days), one, known)
              for both, of_other in all_headed(frame, other, known)]
    for frame, of_one, of_other in sorted(states, key=kept_count):
        for part, row in followed(search, frame):
            steps = (steps_for(one, row, of_one), steps_for(other, row, of_other))
            search_unlike(search, part, row, steps, by)
    if search.book is None:
        return Verdict(True)
    d, e = called_days(search, two_days)
    return Verdict(False, search.count, search.book, d, e)
