"""Faults: why a call of a handler is wrong for an operation, and which rows of a book make it wrong."""

from untilrows.books import Book, Shape, first_day
from untilrows.errors import NoDay, NothingWrong
from untilrows.handlers import check_ends
from untilrows.rows import bears, bears_no_day, last_of
from untilrows.running import run_heads
from untilrows.tables import Table


class Fault:
    """Why a call is wrong; the attributes that its kind does not need are None."""

    def __init__(self, kind, line=None, row=None, day=None, values=None, wanted=None):
        self.kind = kind
        self.line = line
        self.row = row
        self.day = day
        self.shown = values
        self.wanted = wanted


def shown(rows, day, ends="last day"):
    """Return the values of the rows that bear the day, in the order of the rows."""
    return [row[2] for row in rows if bears(row, day, ends)]


def empty_rows(rows, ends):
    """Return the rows that bear no day."""
    return [row for row in rows if bears_no_day(row[0], row[1], ends)]


def first_wrong_day(rows, due, ends):
    """Return the least day on which the rows, none of them empty, do not show just what is due, or None."""
    table = Table()
    before = None
    for row in sorted(rows, key=first_day):
        if before is not None and bears(before, row[0], ends):
            # From here on rows overlap; what is ahead of this day is already in the table.
            other = table.first_difference(due)
            return row[0] if other is None else min(other, row[0])
        table[row[0], last_of(row[1], ends)] = row[2]
        before = row
    return table.first_difference(due)


def fault_of(handler, operation, book, d, e=None, value=0):
    """Return the fault of the call, or None; raise OtherEnds or NotAllowed if there can be none."""
    check_ends(handler, book)
    due = operation.due(book, d, e, value)
    try:
        rows = handler(book, d, e, value)
    except NoDay as error:
        return Fault("fails", line=error.number)
    empty = empty_rows(rows, book.ends)
    if empty:
        return Fault("empty", row=empty[0])
    day = first_wrong_day(rows, due, book.ends)
    if day is None:
        return None
    return Fault("day", day=day, values=shown(rows, day, book.ends), wanted=due[day])


def enough(handler, operation, shape="apart"):
    """Return the number of rows with which some book of the shape is wrong, if any book of it is."""
    number = 1 + operation.named + handler.heads
    if shape == Shape.APART:
        return number
    return 2 * number - 1 if shape == Shape.SOLID else 2 * number


def is_wrong_as(fault, handler, operation, book, d, e, value):
    """Return True if the call on the book is wrong for the same reason as the fault."""
    try:
        rows = handler(book, d, e, value)
    except NoDay as error:
        return error.number == fault.line
    if fault.kind == "empty":
        return len(empty_rows(rows, book.ends)) > 0
    if fault.kind == "fails":
        return False
    wanted = operation.due(book, d, e, value)[fault.day]
    return shown(rows, fault.day, book.ends) != ([] if wanted is None else [wanted])


def needed_rows(handler, operation, book, d, e):
    """Return the rows that the operation and the head lines need, so that they do as they do now."""
    _, picked = run_heads(handler.head_lines, list(book), d, e)
    rows = operation.named_rows(book, d)
    for row in picked:
        if row not in rows:
            rows.append(row)
    return rows


def culprits(handler, operation, book, d, e=None, value=0):
    """Return a small book of rows of the book on which the call is wrong for the same reason."""
    fault = fault_of(handler, operation, book, d, e, value)
    if fault is None:
        raise NothingWrong()
    needed = needed_rows(handler, operation, book, d, e)
    others = [row for row in book if row not in needed]
    few = Book.from_rows(needed, book.ends)
    # The needed rows and one row more are enough, so if no other book will do, the last one does.
    for row in others:
        if is_wrong_as(fault, handler, operation, few, d, e, value):
            break
        few = Book.from_rows([*needed, row], book.ends)
    return few
