"""Where two handlers differ: the zones of a frame in which they leave different rows for some value."""

from untilrows.spans import borders, spans_of, tallied, without_common
from untilrows.tracks import run
from untilrows.zones import parted


def unlike_days(zone, ones, others, ends):
    """Yield the zones in which the rows of the two lists are not shown equally often on some day."""
    spans = [*spans_of(ones, ends, 1), *spans_of(others, ends, -1)]
    # How often they are shown changes on these days only, so the least day of a difference is one of them.
    for day in borders(spans):
        for part, total in tallied(zone, day, spans):
            if total != 0:
                yield part


def same_fields(zone, one, other):
    """Return the zone in which the two terms (or None) are equal (or None), and the zones in which not."""
    if one is None or other is None:
        return (zone, []) if one == other else (None, [zone])
    return parted(zone, one, "=", other)


def same_rows(zone, one, other):
    """Return the zone in which the two rows are equal (or None), and the zones in which they are not."""
    equal, others = same_fields(zone, one[0], other[0])
    if equal is None:
        return None, others
    equal, more = same_fields(equal, one[1], other[1])
    return equal, others + more


def with_weighed(zone, total, row, weighed):
    """Return tuples (zone, total), where the weight of the weighed row is added if it is equal to the row."""
    other, weight = weighed
    equal, unequal = same_rows(zone, row, other)
    without = [(part, total) for part in unequal]
    return without if equal is None else [*without, (equal, total + weight)]


def counted(zone, row, weighted):
    """Return tuples (zone, sum of the weights of the rows that are equal to the row)."""
    states = [(zone, 0)]
    for weighed in weighted:
        states = [state for part, total in states for state in with_weighed(part, total, row, weighed)]
    return states


def unlike_rows(zone, ones, others):
    """Yield the zones in which the two lists have not the same rows, each equally often."""
    weighted = [*[(row, 1) for row in ones], *[(row, -1) for row in others]]
    for row, _ in weighted:
        for part, total in counted(zone, row, weighted):
            if total != 0:
                yield part


def unlike_zones(frame, row, steps, by):
    """Yield zones of the frame in which the two lists of steps differ for the value of the row, or one fails.

    Each choice of days for which they differ is in one of these zones; without a row the new value counts.
    """
    begun = [] if row is None else [row]
    ends, failures = run(steps[0], frame.zone, begun)
    for zone, _ in failures:
        yield zone
    for zone, ones in ends:
        both, failures = run(steps[1], zone, begun)
        for part, _ in failures:
            yield part
        for part, others in both:
            left, rest = without_common(part, ones, others)
            if by == "days":
                yield from unlike_days(part, left, rest, frame.ends)
            else:
                yield from unlike_rows(part, left, rest)
