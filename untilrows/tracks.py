"""How the lines of a handler run over rows of which only bounds are known.

A row is a tuple (first, until, label) of two terms and a label that stands for its value; the until of
an open row is None. `known` tells the terms of the bases (None for a missing one) and which flags are up.
"""

from untilrows.running import is_skipped
from untilrows.zones import later, parted

# The label of the new value.
NEW = 0


def term_at(term, row, known):
    """Return what the term of a line means for the row, or None if it is missing."""
    base, shift = term
    if base == "first":
        at = row[0]
    elif base == "until":
        at = row[1]
    else:
        at = known[base]
    return None if at is None else later(at, shift)


def settled(check, field, other):
    """Return whether the test holds if no comparison of days decides it, else None."""
    if check.sign == "is":
        return field is None
    if check.sign == "is not":
        return field is not None
    if field is None:
        return check.or_empty
    return False if other is None else None


def split(zone, checks, row, known):
    """Return the zone in which all tests hold (or None), and a list of zones of all other days."""
    fails = []
    for check in checks:
        field = row[0] if check.field == "first" else row[1]
        other = term_at(check.term, row, known)
        answer = settled(check, field, other)
        if answer is None:
            zone, others = parted(zone, field, check.sign, other)
            fails.extend(others)
        elif not answer:
            fails.append(zone)
            zone = None
        if zone is None:
            break
    return zone, fails


def given_row(statement, row, known):
    """Return the row with the fields that the statement gives it, or None if the call fails."""
    first, until, label = row
    if statement.new_first is not None:
        first = term_at(statement.new_first, row, known)
        if first is None:
            return None
    if statement.new_until is not None:
        until = term_at(statement.new_until, row, known)
    return (first, until, label)


class Walk:
    """Runs steps over rows, and takes up in turn each part of the zone that does not go the same way.

    A step is a tuple (statement, known, label of the new value). What waits is a tuple of a zone, the index
    of a step, the rows that the step began with, the number of those that it has seen, and what it left.
    """

    def __init__(self, steps, zone, rows):
        self.steps = steps
        self.waiting = [(zone, 0, rows, 0, [])]
        self.ends = []
        self.failures = []

    def walk(self):
        """Run all steps in all parts of the zone."""
        while self.waiting:
            zone, at, rows, seen, left = self.waiting.pop()
            while zone is not None and at < len(self.steps):
                zone, rows = self.stepped(zone, at, rows, seen, left)
                at, seen, left = at + 1, 0, []
            if zone is not None:
                self.ended(zone, rows)

    def ended(self, zone, rows):
        """Keep which rows are left in the zone."""
        self.ends.append((zone, rows))

    def failed(self, zone, number):
        """Keep that the call fails in the zone at the line of the number."""
        self.failures.append((zone, number))

    def stepped(self, zone, at, rows, seen, left):
        """Return a part of the zone (None if the call fails there) and its rows behind the step."""
        statement, known, label = self.steps[at]
        if is_skipped(statement, known):
            return zone, rows
        if statement.kind == "add":
            given = given_row(statement, (None, None, label), known)
            if given is None:
                self.failed(zone, statement.number)
                return None, []
            return zone, [*rows, given]
        for place in range(seen, len(rows)):
            row = rows[place]
            holds, others = split(zone, statement.checks, row, known)
            zone = others.pop() if holds is None else holds
            for other in others:
                self.waiting.append((other, at, rows, place + 1, [*left, row]))
            if holds is None or statement.kind == "copy":
                left.append(row)
            if holds is not None and statement.kind != "drop":
                given = given_row(statement, row, known)
                if given is None:
                    self.failed(zone, statement.number)
                    return None, []
                left.append(given)
        return zone, left


def run(steps, zone, rows):
    """Run the steps over the rows.

    Return the ends, tuples (zone, rows), and the failures, tuples (zone, number of the line). Each choice
    of days in the zone is in just one of their zones.
    """
    walk = Walk(steps, zone, rows)
    walk.walk()
    return walk.ends, walk.failures


def steps_of(statements, known, label=NEW):
    """Return the steps of the statements of one call."""
    return [(statement, known, label) for statement in statements]
