"""Reads the lines of a handler."""

from untilrows.errors import BadLine, TooMany
from untilrows.lines import EMPTY, MOST_SHIFT, Check, Head, Statement

LETTERS = "abcdefghijklmnopqrstuvwxyz"
DIGITS = "0123456789"

FIELDS = ("first", "until")
SIGNS = ("<", "<=", "=", ">=", ">")
PICKS = ("least", "greatest")
HEADS = ("read", "flag")
STATEMENTS = ("drop", "set", "copy", "add")
GUARDS = ("if", "unless")

# The words that are no names.
RESERVED = (
    "add", "and", "copy", "drop", "empty", "first", "flag", "from", "greatest", "if",
    "is", "least", "not", "or", "read", "set", "unless", "until", "where",
)

MOST_CHECKS = 3
MOST_HEADS = 2
MOST_STATEMENTS = 8


def is_name(word):
    """Return True if the word may be the name of a read or of a flag."""
    if len(word) < 2 or len(word) > 12 or word in RESERVED:
        return False
    return all([sign in LETTERS for sign in word])


def is_amount(word):
    """Return True if the word may be the N of a term."""
    # The length is looked at first, so that no long text is made a number.
    if word == "" or word[0] == "0" or len(word) > len(str(MOST_SHIFT)):
        return False
    return all([sign in DIGITS for sign in word]) and int(word) <= MOST_SHIFT


class LineReader:
    """Takes the parts of one line, word by word; raises BadLine where a part is not well formed."""

    def __init__(self, line, number, bases, flags):
        self._words = line.split(" ")
        self._at = 0
        self._number = number
        self._bases = bases
        self._flags = flags

    def take(self):
        """Take the next word."""
        if self._at == len(self._words):
            raise BadLine(self._number)
        self._at += 1
        return self._words[self._at - 1]

    def take_one_of(self, choices):
        """Take the next word, which is one of the choices."""
        word = self.take()
        if word not in choices:
            raise BadLine(self._number)
        return word

    def skip(self, word):
        """Take the next word if it is this one; return True if it is."""
        if self._at == len(self._words) or self._words[self._at] != word:
            return False
        self._at += 1
        return True

    def finish(self):
        """Make sure that no word is left."""
        if self._at < len(self._words):
            raise BadLine(self._number)

    def take_amount(self):
        """Take an N."""
        word = self.take()
        if not is_amount(word):
            raise BadLine(self._number)
        return int(word)

    def take_term(self):
        """Take a TERM."""
        base = self.take_one_of(self._bases)
        if self.skip("+"):
            return (base, self.take_amount())
        if self.skip("-"):
            return (base, -self.take_amount())
        return (base, 0)

    def take_end_term(self):
        """Take an ENDTERM."""
        return EMPTY if self.skip("empty") else self.take_term()

    def take_check(self):
        """Take a test."""
        field = self.take_one_of(FIELDS)
        if field == "until" and self.skip("is"):
            sign = "is not" if self.skip("not") else "is"
            self.take_one_of(("empty",))
            return Check(field, sign, EMPTY, False)
        sign = self.take_one_of(SIGNS)
        term = self.take_term()
        or_empty = field == "until" and self.skip("or")
        if or_empty:
            self.take_one_of(("empty",))
        return Check(field, sign, term, or_empty)

    def take_checks(self):
        """Take one test or more."""
        found = [self.take_check()]
        while self.skip("and"):
            found.append(self.take_check())
        return tuple(found)

    def take_name(self, names):
        """Take a name that is none of these."""
        word = self.take()
        if word in names or not is_name(word):
            raise BadLine(self._number)
        return word

    def take_setting(self):
        """Take a SETTING: the terms of the new first and the new until, None for one that is missing."""
        new_first = None
        if self.skip("first"):
            self.take_one_of(("=",))
            new_first = self.take_term()
            if not self.skip("and"):
                return new_first, None
        self.take_one_of(("until",))
        self.take_one_of(("=",))
        return new_first, self.take_end_term()

    def take_guard(self):
        """Take `if` or `unless` and the name of a flag; both are None if the line ends ahead of them."""
        if self._at == len(self._words):
            return None, None
        return self.take_one_of(GUARDS), self.take_one_of(self._flags)


def read_head(line, number, names):
    """Return the head line; the names are those of the lines above."""
    reader = LineReader(line, number, bases_of(names), [])
    kind = reader.take_one_of(HEADS)
    name = reader.take_name(names)
    reader.take_one_of(("=",))
    pick, field = None, None
    if kind == "read":
        pick = reader.take_one_of(PICKS)
        field = reader.take_one_of(FIELDS)
        reader.take_one_of(("where",))
    checks = reader.take_checks()
    reader.finish()
    if field is None:
        field = checks[0].field
    if any([check.field != field for check in checks]):
        raise BadLine(number)
    return Head(number, kind, name, pick, field, checks)


def read_statement(line, number, names):
    """Return the statement; the names are those of the lines above."""
    fields = [] if first_word(line) == "add" else list(FIELDS)
    flags = [name for name in names if names[name] == "flag"]
    reader = LineReader(line, number, bases_of(names) + fields, flags)
    kind = reader.take_one_of(STATEMENTS)
    new_first, new_until, checks = None, None, ()
    if kind == "add":
        reader.take_one_of(("from",))
        new_first = reader.take_term()
        reader.take_one_of(("until",))
        new_until = reader.take_end_term()
    else:
        if kind != "drop":
            new_first, new_until = reader.take_setting()
        reader.take_one_of(("where",))
        checks = reader.take_checks()
    guard, flag = reader.take_guard()
    reader.finish()
    return Statement(number, kind, new_first, new_until, checks, guard, flag)


def bases_of(names):
    """Return the bases that a term may have besides the fields of a row."""
    return ["d", "e", *[name for name in names if names[name] == "read"]]


def first_word(line):
    """Return the word that tells which kind of line it is."""
    return line.split(" ")[0]


def read_lines(lines):
    """Return the list of the head lines and the list of the statements; the first fault decides."""
    heads, statements = [], []
    names = {}
    for number, line in enumerate(lines, start=1):
        if first_word(line) in HEADS:
            if statements:
                raise BadLine(number)
            step = read_head(line, number, names)
            names[step.name] = step.kind
            heads.append(step)
        else:
            step = read_statement(line, number, names)
            statements.append(step)
        if len(step.checks) > MOST_CHECKS:
            raise TooMany(MOST_CHECKS)
        if len(heads) > MOST_HEADS:
            raise TooMany(MOST_HEADS)
        if len(statements) > MOST_STATEMENTS:
            raise TooMany(MOST_STATEMENTS)
    return heads, statements
