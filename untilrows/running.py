"""How the lines of a handler run over a list of rows, told as tuples (first, until, value)."""

from untilrows.errors import NoDay


def day_of(term, row, known):
    """Return the day that the term means, or None if it is missing."""
    base, shift = term
    if base == "first":
        day = row[0]
    elif base == "until":
        day = row[1]
    else:
        day = known[base]
    return None if day is None else day + shift


def compares(left, sign, right):
    """Return True if the two days compare as the sign says."""
    if sign == "<":
        return left < right
    if sign == "<=":
        return left <= right
    if sign == "=":
        return left == right
    if sign == ">=":
        return left >= right
    return left > right


def check_holds(check, row, known):
    """Return True if the test holds for the row."""
    left = row[0] if check.field == "first" else row[1]
    if check.sign == "is":
        return left is None
    if check.sign == "is not":
        return left is not None
    if left is None:
        return check.or_empty
    right = day_of(check.term, row, known)
    return right is not None and compares(left, check.sign, right)


def all_hold(checks, row, known):
    """Return True if each test holds for the row."""
    for check in checks:
        if not check_holds(check, row, known):
            return False
    return True


def picked_row(head, rows, known):
    """Return the row that a read reads, or one that puts up the flag, or None; the rows are a book's."""
    found = [row for row in rows if all_hold(head.checks, row, known)]
    if not found:
        return None
    # In a book the row with the latest first day has the latest until, too, and only it can be open.
    return found[-1] if head.pick == "greatest" else found[0]


def run_heads(heads, rows, d, e):
    """Return what the bases and flags stand for in a call, and the rows that were picked for that."""
    known = {"d": d, "e": e, "empty": None}
    picked = []
    for head in heads:
        row = picked_row(head, rows, known)
        if row is not None:
            picked.append(row)
        if head.kind == "flag":
            known[head.name] = row is not None
        elif row is None:
            known[head.name] = None
        else:
            known[head.name] = row[0] if head.field == "first" else row[1]
    return known, picked


def given_row(statement, row, known):
    """Return the row with the fields that the statement gives it."""
    first, until, value = row
    if statement.new_first is not None:
        first = day_of(statement.new_first, row, known)
        if first is None:
            raise NoDay(statement.number)
    if statement.new_until is not None:
        until = day_of(statement.new_until, row, known)
    return (first, until, value)


def is_skipped(statement, known):
    """Return True if the flag of the statement keeps it from doing anything."""
    if statement.guard is None:
        return False
    return known[statement.flag] == (statement.guard == "unless")


def run_statement(statement, rows, known, value):
    """Return the rows that the statement leaves; raise NoDay if it fails."""
    if is_skipped(statement, known):
        return rows
    if statement.kind == "add":
        return [*rows, given_row(statement, (None, None, value), known)]
    left = []
    for row in rows:
        holds = all_hold(statement.checks, row, known)
        if not holds or statement.kind == "copy":
            left.append(row)
        if holds and statement.kind != "drop":
            left.append(given_row(statement, row, known))
    return left
