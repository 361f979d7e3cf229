"""Slow walks over all small books, and right handlers with small faults, for comparison."""

import itertools
import random

from untilrows.books import Book
from untilrows.rows import Ends

SHAPES = ("apart", "solid", "lasting")
ENDS = (Ends.LAST_DAY, Ends.NEXT_DAY)

# A right handler for each operation and all books, with the ends LAST_DAY.
RIGHT = {
    "set": "set until = d - 1 where first < d and until >= d or empty\ndrop where first >= d\n"
           "add from d until empty",
    "end": "set until = d - 1 where first < d and until >= d or empty\ndrop where first >= d",
    "fill": "read then = least first where first > d\nset until = d - 1 where first < d and until >= d or empty\n"
            "drop where first = d\nadd from d until then - 1",
    "between": "copy first = e + 1 where first <= e and until > e or empty\n"
               "set until = d - 1 where first < d and until >= d or empty\n"
               "drop where first >= d and first <= e\nadd from d until e",
    "clear": "copy first = e + 1 where first <= e and until > e or empty\n"
             "set until = d - 1 where first < d and until >= d or empty\ndrop where first >= d and first <= e",
    "take": "drop where first <= d and until >= d or empty",
    "give": "read last = greatest until where until < d\nread stop = least until where until >= d or empty\n"
            "drop where first <= d and until >= d or empty\nset until = stop where until = last",
    "move": "set until = e - 1 where until = d - 1\nset first = e where first = d",
}

SIGNS = ("<", "<=", "=", ">=", ">")


def borders_of_rows(count, shape, width):
    """Yield the rows (first, stop) of all books of the shape with days from 0 to width - 1."""
    for days in itertools.combinations_with_replacement(range(width + 1), 2 * count):
        rows = list(zip(days[::2], days[1::2]))
        if any(first == stop for first, stop in rows):
            continue
        if shape != "apart" and any(row[1] != later[0] for row, later in zip(rows, rows[1:])):
            continue
        if shape != "lasting":
            yield rows
        # A stop on the last day stands for no end, so each open row comes once.
        if rows and rows[-1][1] == width:
            yield [*rows[:-1], (rows[-1][0], None)]


def books(count, shape, ends, width):
    """Return all books of so many rows with borders from 0 to width, with the values 1, 2, 3 and so on."""
    back = 1 if ends == Ends.LAST_DAY else 0
    return [Book(*[(first, None if stop is None else stop - back, value)
                   for value, (first, stop) in enumerate(rows, start=1)], ends=ends)
            for rows in borders_of_rows(count, shape, width)]


def some(things, most, seed):
    """Return the things, or some of them if there are too many; the same ones each time."""
    return things if len(things) <= most else random.Random(seed).sample(things, most)


def calls(width, two_days):
    """Return all calls (d, e) with days around those of the books."""
    days = range(-1, width + 2)
    return [(d, e) for d in days for e in (days if two_days else [None])]


def term_of(words, place, step):
    """Return the words with the term at the place moved by the step."""
    if place + 2 < len(words) and words[place + 1] in "+-":
        shift = int(words[place + 2]) * (1 if words[place + 1] == "+" else -1) + step
        rest = words[place + 3:]
    else:
        shift, rest = step, words[place + 1:]
    told = [] if shift == 0 else ["+" if shift > 0 else "-", str(abs(shift))]
    return [*words[:place + 1], *told, *rest]


def faulty(text):
    """Yield the text with small faults: a line less, another sign, another N, no `or empty`."""
    lines = text.split("\n")
    for at, line in enumerate(lines):
        words = line.split(" ")
        others = []
        for place, word in enumerate(words):
            if place > 0 and words[place - 1] in ("first", "until") and word in SIGNS:
                if words[place - 2] in ("where", "and") and "where" in words[:place]:
                    others.extend([[*words[:place], sign, *words[place + 1:]] for sign in SIGNS if sign != word])
                others.extend([term_of(words, place + 1, step) for step in (1, -1) if words[place + 1] != "empty"])
            if word in ("from", "until") and words[0] == "add" and words[place + 1] != "empty":
                others.extend([term_of(words, place + 1, step) for step in (1, -1)])
            if word == "or":
                others.append([*words[:place], *words[place + 2:]])
        for other in others:
            yield "\n".join([*lines[:at], " ".join(other), *lines[at + 1:]])
        if len(lines) > 1:
            yield "\n".join([*lines[:at], *lines[at + 1:]])


def any_handler(mixed, number, per, two_days, copies, most=40):
    """Return a handler that cannot fail, with so many statements and so many tests in each of them."""
    bases = ["d", "e", "first", "until"] if two_days else ["d", "first", "until"]

    def term(some_bases):
        shift = mixed.randint(-most, most)
        base = mixed.choice(some_bases)
        return base if shift == 0 else f"{base} {'+' if shift > 0 else '-'} {abs(shift)}"

    lines = []
    for _ in range(number):
        tests = [f"{mixed.choice(['first', 'until'])} {mixed.choice(['<', '<=', '>', '>='])} {term(bases)}"
                 for _ in range(per)]
        kind = mixed.choice(["set", "drop", "copy"] if copies > 0 else ["set", "drop"])
        copies -= kind == "copy"
        setting = "" if kind == "drop" else mixed.choice(
            [f"first = {term(bases[:-1])} ", f"until = {term(bases)} ",
             f"first = {term(bases[:-1])} and until = {term(bases)} "])
        lines.append(f"{kind} {setting}where {' and '.join(tests)}")
    return "\n".join(lines)
