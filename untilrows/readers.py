"""Readers: texts that find the value that stands on a day."""

from untilrows.books import Shape
from untilrows.errors import BadLine, OtherEnds, TwoRows
from untilrows.frames import book_of
from untilrows.grammar import LineReader, MOST_CHECKS
from untilrows.handlers import check_ends
from untilrows.pieces import point_names, scene_rows, scene_zone
from untilrows.running import all_hold
from untilrows.tracks import split
from untilrows.verdicts import Verdict

PICKS = ("latest", "earliest", "only")

# The signs that a test of the field may have.
SIGNS = {"first": ("<", "<="), "until": (">", ">=", "is")}

# No book with more rows needs to be looked at.
MOST_ROWS = {"apart": 3, "solid": 5, "lasting": 6}

# What a reader finds if it raises TwoRows.
SEVERAL = "several"


class Reader:
    """A reader for books of the given ends; it is called with a book and a day."""

    def __init__(self, text, ends, pick, checks):
        self.text = text
        self.ends = ends
        self.pick = pick
        self.checks = checks

    @classmethod
    def read(cls, text, ends="last day"):
        """Read the text of a reader; raise BadLine if it is not well formed."""
        words = LineReader(text, 1, ["d"], [])
        pick = words.take_one_of(PICKS)
        words.take_one_of(("where",))
        checks = words.take_checks()
        words.finish()
        if len(checks) > MOST_CHECKS or any([check.sign not in SIGNS[check.field] for check in checks]):
            raise BadLine(1)
        return cls(text, ends, pick, checks)

    def __call__(self, book, day):
        check_ends(self, book)
        found = [row for row in book if all_hold(self.checks, row, {"d": day})]
        if not found:
            return None
        if self.pick == "only" and len(found) > 1:
            raise TwoRows(found[0], found[1])
        return found[-1][2] if self.pick == "latest" else found[0][2]


def looked_at(reader, state, row, known):
    """Return the states in which the reader is done when it has looked at the row, and those in which it goes on.

    A state is a tuple (zone, label of the row that is found so far, or None, or SEVERAL).
    """
    zone, label = state
    holds, fails = split(zone, reader.checks, row, known)
    others = [(part, label) for part in fails]
    if holds is None:
        return [], others
    if label is not None:
        return [(holds, SEVERAL)], others
    if reader.pick == "only":
        return [], [*others, (holds, row[2])]
    return [(holds, row[2])], others


def found_by(reader, zone, rows, known):
    """Return tuples (zone, label of the row whose value the reader gives); the label may be None or SEVERAL."""
    found = []
    states = [(zone, None)]
    for row in (rows[::-1] if reader.pick == "latest" else rows):
        looks = [looked_at(reader, state, row, known) for state in states]
        found.extend([state for done, _ in looks for state in done])
        states = [state for _, others in looks for state in others]
    return found + states


def unlike_scene(one, other, shape, count, open_last):
    """Return a book of so many rows and a day on which the two readers differ, or None twice."""
    names = point_names(count, open_last, False)
    rows = scene_rows(names, count)
    zone = scene_zone(names, rows, shape, one.ends)
    known = {"d": (0, 0), "empty": None}
    for part, label in found_by(one, zone, rows, known):
        for both, told in found_by(other, part, rows, known):
            if label != told:
                days = both.solution()
                return book_of(rows, days, one.ends), days[0]
    return None, None


def read_alike(one, other, *, shape="apart"):
    """Return whether the two readers do the same on all books of the shape."""
    if one.ends != other.ends:
        raise OtherEnds(other.ends)
    for count in range(MOST_ROWS[shape] + 1):
        for open_last in (False, True):
            if (open_last and count == 0) or (shape == Shape.LASTING and not open_last):
                continue
            book, d = unlike_scene(one, other, shape, count, open_last)
            if book is not None:
                return Verdict(False, count, book, d)
    return Verdict(True)
