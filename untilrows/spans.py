"""Spans: on which days how many of some rows are shown, as far as the bounds of a zone tell it.

A span is a tuple (begin, end, weight): it has the days from the term `begin` up to the day before the term
`end`, or without end if that is None.
"""

from untilrows.rows import stop_of
from untilrows.zones import at_most, later, parted


def stop_term(row, ends):
    """Return the first day after the row, or None if it is open."""
    return None if row[1] is None else later(row[1], stop_of(0, ends))


def spans_of(rows, ends, weight=1):
    """Return the spans of the rows."""
    return [(row[0], stop_term(row, ends), weight) for row in rows]


def empty_zones(zone, spans):
    """Return, for each span that may have no day, the zone in which it has none."""
    found = [at_most(zone, end, begin) for begin, end, _ in spans if end is not None]
    return [part for part in found if part is not None]


def borne(zone, day, begin, end):
    """Return the zone in which the span has the day (or None), and a list of zones of all other days."""
    begun, others = parted(zone, begin, "<=", day)
    if begun is None or end is None:
        return begun, others
    inside, behind = parted(begun, day, "<", end)
    return inside, others + behind


def with_span(zone, total, day, span):
    """Return tuples (zone, total), where the weight of the span is added if it has the day."""
    begin, end, weight = span
    inside, others = borne(zone, day, begin, end)
    without = [(other, total) for other in others]
    return without if inside is None else [*without, (inside, total + weight)]


def tallied(zone, day, spans):
    """Return tuples (zone, sum of the weights of the spans that have the day)."""
    states = [(zone, 0)]
    for span in spans:
        states = [state for part, total in states for state in with_span(part, total, day, span)]
    return states


def borders(spans):
    """Return the terms at which the number of the shown spans can change, each once."""
    found = {}
    for begin, end, _ in spans:
        found[begin] = True
        if end is not None:
            found[end] = True
    return list(found)


def same_day(zone, one, other):
    """Return True if the two terms (or None) mean the same day throughout the zone."""
    if one is None or other is None:
        return one == other
    shift = other[1] - one[1]
    return zone.limits[one[0]][other[0]] <= shift and zone.limits[other[0]][one[0]] <= -shift


def without_common(zone, ones, others):
    """Return both lists without rows that are in both of them throughout the zone."""
    left = []
    rest = list(others)
    for row in ones:
        place = place_of_same(zone, row, rest)
        if place is None:
            left.append(row)
        else:
            rest = [*rest[:place], *rest[place + 1:]]
    return left, rest


def place_of_same(zone, row, rows):
    """Return the index of a row that is the same throughout the zone, or None."""
    for place, held in enumerate(rows):
        if row[2] == held[2] and same_day(zone, row[0], held[0]) and same_day(zone, row[1], held[1]):
            return place
    return None
