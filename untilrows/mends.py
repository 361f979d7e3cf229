"""Mends: changes of the lines of a handler, and which of them make it right."""

from untilrows.choices import least_choices
from untilrows.errors import RowsError, TooMany, Twice, Unknown
from untilrows.handlers import Handler
from untilrows.verdicts import judge

MOST_CHANGES = 5


def mended(handler, *changes):
    """Return the handler with all changes, tuples (number of a line, text or None), made at once."""
    texts = {number: text for number, text in changes}
    for number in texts:
        if number < 1 or number > len(handler.lines):
            raise Unknown(number)
    seen = {}
    for number, _ in changes:
        if number in seen:
            raise Twice(number)
        seen[number] = True
    parts = [texts.get(number, line) for number, line in enumerate(handler.lines, start=1)]
    return Handler.read("\n".join([part for part in parts if part is not None]), handler.ends)


def is_mended(handler, operation, changes, shape):
    """Return True if the changes make the handler right."""
    try:
        better = mended(handler, *changes)
    except RowsError:
        return False
    return judge(better, operation, shape=shape).holds


def mends(handler, operation, *pool, shape="apart"):
    """Return the list of all least sets of changes, told as indexes, that make the handler right."""
    if len(pool) > MOST_CHANGES:
        raise TooMany(MOST_CHANGES)
    places = list(range(len(pool)))
    return least_choices(
        places, lambda chosen: is_mended(handler, operation, [pool[place] for place in chosen], shape))
