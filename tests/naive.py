"""Slow and simple models of handlers, made in another way than the program, for comparison."""

import operator
import re

SIGNS = {"<": operator.lt, "<=": operator.le, "=": operator.eq, ">=": operator.ge, ">": operator.gt}

RESERVED = ("add and copy drop empty first flag from greatest if is least not or read set unless until where"
            ).split()


def alternatives(words):
    return "(?:" + "|".join(words) + ")" if words else "(?!)"


def line_pattern(kind, reads, flags):
    """Return the pattern of well formed lines of the kind, with any number of tests."""
    bases = ["d", "e", *reads]
    if kind in ("drop", "set", "copy"):
        bases = [*bases, "first", "until"]
    term = alternatives(bases) + r"(?: [+-] (?:[1-9][0-9]{0,8}|1000000000))?"
    end_term = f"(?:{term}|empty)"
    sign = "(?:<|<=|=|>=|>)"
    of_first = f"first {sign} {term}"
    of_until = f"(?:until {sign} {term}(?: or empty)?|until is (?:not )?empty)"
    name = "(?P<name>[a-z]{2,12})"
    some = {"first": f"{of_first}(?: and {of_first})*", "until": f"{of_until}(?: and {of_until})*"}
    if kind == "read":
        return "|".join([f"read {name.replace('name', field)} = (?:least|greatest) {field} where {some[field]}"
                         for field in ["first", "until"]])
    if kind == "flag":
        return f"flag {name} = (?:{some['first']}|{some['until']})"
    test = f"(?:{of_first}|{of_until})"
    where = f"where {test}(?: and {test})*"
    setting = f"(?:first = {term}|until = {end_term}|first = {term} and until = {end_term})"
    body = {
        "drop": f"drop {where}",
        "set": f"set {setting} {where}",
        "copy": f"copy {setting} {where}",
        "add": f"add from {term} until {end_term}",
    }
    return f"{body[kind]}(?: (?:if|unless) {alternatives(flags)})?"


def fault_in(text):
    """Return what is wrong with the text of a handler: ("bad", line), ("many", most) or None."""
    reads, flags = [], []
    heads = statements = 0
    for number, line in enumerate(text.split("\n"), start=1):
        kind = line.split(" ")[0]
        if kind not in ("read", "flag", "drop", "set", "copy", "add"):
            return "bad", number
        found = re.fullmatch(line_pattern(kind, reads, flags), line)
        is_head = kind in ("read", "flag")
        if not found or (is_head and statements):
            return "bad", number
        if is_head:
            name = [name for name in found.groups() if name][0]
            if name in RESERVED or name in reads + flags:
                return "bad", number
            (reads if kind == "read" else flags).append(name)
        heads += is_head
        statements += not is_head
        where = line.split(" = ", 1)[1] if kind == "flag" else line.partition("where ")[2]
        if len(where.split(" and ")) > 3:
            return "many", 3
        if heads > 2:
            return "many", 2
        if statements > 8:
            return "many", 8
    return None


def term_day(text, row, known):
    base, *rest = text.split(" ")
    day = {**known, "first": row[0], "until": row[1], "empty": None}[base]
    if day is not None and rest:
        day = day + int(rest[1]) if rest[0] == "+" else day - int(rest[1])
    return day


def test_holds(test, row, known):
    if test.endswith(" empty") and test.startswith("until is"):
        return (row[1] is None) == (test == "until is empty")
    if test.endswith(" or empty"):
        return row[1] is None or test_holds(test[:-len(" or empty")], row, known)
    field, sign, term = test.split(" ", 2)
    left, right = term_day(field, row, known), term_day(term, row, known)
    return None not in (left, right) and SIGNS[sign](left, right)


def tests_hold(tests, row, known):
    return all(test_holds(test, row, known) for test in tests.split(" and "))


def run_head(line, rows, known):
    kind, name, rest = re.fullmatch("(read|flag) ([a-z]+) = (.*)", line).groups()
    if kind == "flag":
        known[name] = any(tests_hold(rest, row, known) for row in rows)
        return
    pick, field, tests = re.fullmatch("(least|greatest) (first|until) where (.*)", rest).groups()
    days = [row[0] if field == "first" else row[1] for row in rows if tests_hold(tests, row, known)]
    days = sorted([float("inf") if day is None else day for day in days])
    known[name] = None
    if days:
        day = days[0] if pick == "least" else days[-1]
        known[name] = None if day == float("inf") else day


def new_row(row, first, until, known):
    """Return the row with the fields that the terms (or None) give it; raise LookupError if it fails."""
    begin = row[0] if first is None else term_day(first, row, known)
    if begin is None:
        raise LookupError
    return (begin, row[1] if until is None else term_day(until, row, known), row[2])


def run_line(line, rows, known, value):
    guarded = re.fullmatch("(.*) (if|unless) ([a-z]+)", line)
    if guarded:
        line = guarded[1]
        if known[guarded[3]] != (guarded[2] == "if"):
            return rows
    if line.startswith("add"):
        first, until = re.fullmatch("add from (.*) until (.*)", line).groups()
        return [*rows, new_row((None, None, value), first, until, known)]
    head, tests = line.split("where ")
    kind = head.split(" ")[0]
    first = re.search("first = (.*?)(?: and until| $)", head)
    until = re.search("until = (.*) $", head)
    left = []
    for row in rows:
        hit = tests_hold(tests, row, known)
        if not hit or kind == "copy":
            left.append(row)
        if hit and kind != "drop":
            left.append(new_row(row, first and first[1], until and until[1], known))
    return left


def run(text, rows, d, e=None, value=0):
    """Return the rows that the handler leaves, or the number of the line that fails."""
    known = {"d": d, "e": e}
    begun = list(rows)
    for number, line in enumerate(text.split("\n"), start=1):
        if line.startswith(("read", "flag")):
            run_head(line, begun, known)
            continue
        try:
            rows = run_line(line, rows, known, value)
        except LookupError:
            return number
    return list(rows)
