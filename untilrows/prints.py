"""Prints: books as texts."""

from untilrows.books import Book
from untilrows.errors import BadLine

# The first line of a text, for both ends.
FIRST_LINES = {"last day": "until is the last day", "next day": "until is the next day"}

DIGITS = "0123456789"
MOST_DIGITS = 60
MOST_SIGNS = 200

# What stands for the until of an open row, and ahead of the characters of a string.
NO_END = "open"
QUOTE = "'"


def row_line(row):
    """Return the line of a row, told as a tuple."""
    first, until, value = row
    end = NO_END if until is None else str(until)
    text = QUOTE + value if isinstance(value, str) else str(value)
    return f"{first:>12} {end:>12} {text}"


def printed(book):
    """Return the book as a text."""
    return "\n".join([FIRST_LINES[book.ends], *[row_line(row) for row in book]])


def whole(text):
    """Return the integer that is written so, in digits and perhaps with a minus, or None."""
    digits = text[1:] if text.startswith("-") else text
    # The length is looked at first, so that no long text is made a number.
    if digits == "" or len(digits) > MOST_DIGITS or not all([sign in DIGITS for sign in digits]):
        return None
    number = int(text)
    # A number has one way of writing it, so zeros ahead of it, or a minus ahead of 0, are none.
    return number if str(number) == text else None


def worth(text):
    """Return the value that is written so, or None."""
    if not text.startswith(QUOTE):
        return whole(text)
    value = text[1:]
    return value if len(value) <= MOST_SIGNS else None


def word_ahead(text):
    """Return the first word of the text, and what stands behind the space that ends it."""
    word, _, rest = text.lstrip(" ").partition(" ")
    return word, rest


def row_of(line, number):
    """Return the row of the line with this number; raise BadLine if it is not written as row_line does."""
    begin, behind = word_ahead(line)
    end, text = word_ahead(behind)
    first, value = whole(begin), worth(text)
    until = None if end == NO_END else whole(end)
    if first is None or value is None or (until is None and end != NO_END):
        raise BadLine(number)
    if row_line((first, until, value)) != line:
        raise BadLine(number)
    return first, until, value


def ends_of(line):
    """Return the ends that a first line tells; raise BadLine if it is none."""
    for ends in FIRST_LINES:
        if FIRST_LINES[ends] == line:
            return ends
    raise BadLine(1)


def read_printed(text):
    """Return the book of a text."""
    lines = text.split("\n")
    ends = ends_of(lines[0])
    rows = [row_of(line, number) for number, line in enumerate(lines[1:], start=2)]
    return Book.from_rows(rows, ends)
