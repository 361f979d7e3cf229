"""Weaves: two calls whose lines take turns, and whether that does what one call after the other does."""

from untilrows.choices import least_choices
from untilrows.errors import BadTurns, HasHeads, OtherEnds, TooMany
from untilrows.frames import book_of
from untilrows.handlers import check_ends
from untilrows.running import run_statement
from untilrows.weavings import Weaving, woven

MOST_LINES = 3


class WeaveVerdict:
    """Whether a weave is sound; where it is not, a smallest book and two days tell why."""

    def __init__(self, is_sound, count=None, book=None, d_one=None, d_other=None):
        self.holds = is_sound
        self.count = count
        self.book = book
        self.d_one = d_one
        self.d_other = d_other

    def __bool__(self):
        return bool(self.holds)


def check_heads(one, other):
    """Raise HasHeads if one of the two handlers has head lines."""
    if one.heads > 0 or other.heads > 0:
        raise HasHeads()


def check_turns(one, other, turns):
    """Raise BadTurns if the turns do not fit the lines of the two handlers."""
    fits = turns.count("1") == len(one.lines) and turns.count("2") == len(other.lines)
    if not fits or len(turns) != len(one.lines) + len(other.lines):
        raise BadTurns(turns)


def call_steps(call):
    """Return the steps of the call, tuples (statement, known, new value)."""
    known = {"d": call.d, "e": call.e, "empty": None}
    return [(statement, known, call.value) for statement in call.handler.statements]


def weave(book, one, other, turns):
    """Return the rows that the two calls leave if their lines take these turns."""
    check_ends(one.handler, book)
    check_ends(other.handler, book)
    check_heads(one.handler, other.handler)
    check_turns(one.handler, other.handler, turns)
    rows = list(book)
    for statement, known, value in woven(call_steps(one), call_steps(other), turns):
        rows = run_statement(statement, rows, known, value)
    return rows


def turns_after(turns):
    """Return the turns that are next in alphabetic order, or None if there are none."""
    place = turns.rfind("12")
    if place < 0:
        return None
    # A later turn of the second call comes first, and what is behind it begins anew in least order.
    behind = turns[place + 1:]
    ones, others = behind.count("1") + 1, behind.count("2") - 1
    return turns[:place] + "2" + "1" * ones + "2" * others


def weaves(one, other):
    """Yield all turns of the two handlers in alphabetic order."""
    turns = "1" * len(one.lines) + "2" * len(other.lines)
    while turns is not None:
        yield turns
        turns = turns_after(turns)


def check_pair(one, other):
    """Raise OtherEnds or HasHeads if the lines of the two handlers cannot take turns."""
    if one.ends != other.ends:
        raise OtherEnds(other.ends)
    check_heads(one, other)


def judge_weave(one, other, turns):
    """Return whether the weave of the two handlers is sound for all books, days and values."""
    check_pair(one, other)
    check_turns(one, other, turns)
    zone, rows = Weaving(one, other).unsound(turns)
    if zone is None:
        return WeaveVerdict(True)
    days = zone.solution()
    return WeaveVerdict(False, len(rows), book_of(rows, days, one.ends), days[0], days[1])


def keeps(turns, hold):
    """Return True if no line of the other call runs within the hold."""
    who, line = hold
    places = [place for place, turn in enumerate(turns) if turn == str(who)]
    return places[line] == places[line - 1] + 1


def are_kept_out(unsound, chosen):
    """Return True if each of the unsound turns breaks one of the chosen holds."""
    return all([any([not keeps(turns, hold) for hold in chosen]) for turns in unsound])


def holds(one, other):
    """Return the list of all least sets of holds with which every weave is sound."""
    check_pair(one, other)
    if len(one.lines) > MOST_LINES or len(other.lines) > MOST_LINES:
        raise TooMany(MOST_LINES)
    weaving = Weaving(one, other)
    unsound = [turns for turns in weaves(one, other) if weaving.unsound(turns)[0] is not None]
    places = [*[(1, line) for line in range(1, len(one.lines))], *[(2, line) for line in range(1, len(other.lines))]]
    return least_choices(places, lambda chosen: are_kept_out(unsound, chosen))
