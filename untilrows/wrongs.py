"""Where a handler is wrong: the zones of a frame in which some value is shown too seldom or too often.

Each row of a book is looked at for itself, so it is enough to follow one value at a time: that of one kept
row, or the new value.
"""

from untilrows.frames import headed
from untilrows.spans import borders, borne, empty_zones, spans_of, stop_term, tallied
from untilrows.tracks import NEW, run, steps_of


def all_headed(frame, handler, known):
    """Return tuples (frame, known) for all that the head lines of the handler can pick."""
    states = [(frame, known)]
    for head in handler.head_lines:
        states = [state for held, told in states for state in headed(held, head, told)]
    return states


def steps_for(handler, row, known):
    """Return the steps that matter for the value of the row, or for the new value if there is no row."""
    if row is None:
        return steps_of(handler.statements, known)
    return steps_of([line for line in handler.statements if line.kind != "add"], known)


def due_states(zone, day, case, row):
    """Return tuples (zone, how often the value of the row, or the new value, is due on the day)."""
    label = NEW if row is None else row[2]
    inside, others = borne(zone, day, case.begin, case.end)
    found = [] if inside is None else [(inside, 1 if case.label == label else 0)]
    for part in others:
        if row is None:
            found.append((part, 0))
        else:
            bearing, rest = borne(part, day, row[0], stop_term(row, case.frame.ends))
            found.extend([(other, 0) for other in rest])
            if bearing is not None:
                found.append((bearing, 1))
    return found


def wrong_days(zone, left, case, row):
    """Yield the zones in which the rows that are left do not show the value as often as it is due."""
    ends = case.frame.ends
    spans = spans_of(left, ends)
    begun = [] if row is None else spans_of([row], ends)
    # What is shown and what is due change on these days only, so the least wrong day is one of them.
    for day in borders([*spans, *begun, (case.begin, case.end, 0)]):
        for part, due in due_states(zone, day, case, row):
            for uneven, total in tallied(part, day, spans):
                if total != due:
                    yield uneven


def wrong_zones(case, frame, row, steps):
    """Yield zones of the frame in which the steps are wrong for the value; each wrong choice of days is in one."""
    ends, failures = run(steps, frame.zone, [] if row is None else [row])
    for zone, _ in failures:
        yield zone
    for zone, left in ends:
        for empty in empty_zones(zone, spans_of(left, frame.ends)):
            yield empty
        yield from wrong_days(zone, left, case, row)
