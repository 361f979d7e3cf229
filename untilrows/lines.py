"""The parts of the lines of a handler, how they are written and how they change with the ends."""

from untilrows.errors import TooFar

# The greatest N of a term.
MOST_SHIFT = 1000000000

# A term is a tuple of its base and of what is added to it. The word `empty` is a term, too.
EMPTY = ("empty", 0)


def term_text(term):
    """Return the term as it is written."""
    base, shift = term
    if shift == 0:
        return base
    sign = "+" if shift > 0 else "-"
    return f"{base} {sign} {abs(shift)}"


def shifted_term(term, field, growth, number):
    """Return the term that the field is compared with or given, if fields and bases grow as told."""
    if term is None or term == EMPTY:
        return term
    base, shift = term
    shift = shift + growth[field] - growth[base]
    if abs(shift) > MOST_SHIFT:
        raise TooFar(number)
    return (base, shift)


class Check:
    """A test of a row; its sign is `is` or `is not` where it asks for an empty until."""

    def __init__(self, field, sign, term, or_empty):
        self.field = field
        self.sign = sign
        self.term = term
        self.or_empty = or_empty

    def written(self):
        """Return the text of the test."""
        text = f"{self.field} {self.sign} {term_text(self.term)}"
        return f"{text} or empty" if self.or_empty else text

    def shifted(self, growth, number):
        """Return the test that says the same if fields and bases grow as told."""
        return Check(self.field, self.sign, shifted_term(self.term, self.field, growth, number), self.or_empty)


def checks_text(checks):
    """Return the tests as they are written."""
    return " and ".join([check.written() for check in checks])


class Head:
    """A head line: a read or a flag. A flag has no pick (`least` or `greatest`)."""

    def __init__(self, number, kind, name, pick, field, checks):
        self.number = number
        self.kind = kind
        self.name = name
        self.pick = pick
        self.field = field
        self.checks = checks

    def written(self):
        """Return the text of the line."""
        picked = f"{self.pick} {self.field} where " if self.kind == "read" else ""
        return f"{self.kind} {self.name} = {picked}{checks_text(self.checks)}"

    def shifted(self, growth):
        """Return the line that says the same if fields and bases grow as told."""
        checks = [check.shifted(growth, self.number) for check in self.checks]
        return Head(self.number, self.kind, self.name, self.pick, self.field, tuple(checks))


class Statement:
    """A statement. What it has not (a new first, a new until, a guard with its flag) is None."""

    def __init__(self, number, kind, new_first, new_until, checks, guard, flag):
        self.number = number
        self.kind = kind
        self.new_first = new_first
        self.new_until = new_until
        self.checks = checks
        self.guard = guard
        self.flag = flag

    def _setting(self):
        parts = []
        if self.new_first is not None:
            parts.append(f"first = {term_text(self.new_first)}")
        if self.new_until is not None:
            parts.append(f"until = {term_text(self.new_until)}")
        return " and ".join(parts)

    def written(self):
        """Return the text of the line."""
        if self.kind == "add":
            parts = [f"add from {term_text(self.new_first)} until {term_text(self.new_until)}"]
        elif self.kind == "drop":
            parts = ["drop where", checks_text(self.checks)]
        else:
            parts = [self.kind, self._setting(), "where", checks_text(self.checks)]
        if self.guard is not None:
            parts = [*parts, self.guard, self.flag]
        return " ".join(parts)

    def shifted(self, growth):
        """Return the line that says the same if fields and bases grow as told."""
        new_first = shifted_term(self.new_first, "first", growth, self.number)
        new_until = shifted_term(self.new_until, "until", growth, self.number)
        checks = [check.shifted(growth, self.number) for check in self.checks]
        return Statement(self.number, self.kind, new_first, new_until, tuple(checks), self.guard, self.flag)
