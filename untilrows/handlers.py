"""Handlers: texts of lines that change the rows of a book."""

from untilrows.errors import OtherEnds
from untilrows.grammar import read_lines
from untilrows.rows import stop_of, until_of
from untilrows.running import run_heads, run_statement


def check_ends(handler, book):
    """Raise OtherEnds if the handler (or the reader) and the book have different ends."""
    if handler.ends != book.ends:
        raise OtherEnds(book.ends)


class Handler:
    """A handler of the given ends; it is called with a book, one day or two, and a new value."""

    def __init__(self, lines, ends):
        head_lines, statements = read_lines(lines)
        self.lines = lines
        self.ends = ends
        self.heads = len(head_lines)
        self.head_lines = tuple(head_lines)
        self.statements = tuple(statements)

    @classmethod
    def read(cls, text, ends="last day"):
        """Read the text of a handler; raise BadLine or TooMany for the first line with a fault."""
        return cls(tuple(text.split("\n")), ends)

    def __str__(self):
        return "\n".join(self.lines)

    def __eq__(self, other):
        return isinstance(other, Handler) and self.lines == other.lines and self.ends == other.ends

    def __call__(self, book, d, e=None, value=0):
        check_ends(self, book)
        rows = list(book)
        known, _ = run_heads(self.head_lines, rows, d, e)
        for statement in self.statements:
            rows = run_statement(statement, rows, known, value)
        return rows


class Call:
    """A call of a handler: its days and its new value."""

    def __init__(self, handler, d, e=None, value=0):
        self.handler = handler
        self.d = d
        self.e = e
        self.value = value

    def __call__(self, book):
        return self.handler(book, self.d, self.e, self.value)


def growth_of(handler, ends):
    """Return by how much each field and each base grows if rows are written with the ends."""
    growth = {"d": 0, "e": 0, "first": 0}
    growth["until"] = until_of(stop_of(0, handler.ends), ends)
    for head in handler.head_lines:
        growth[head.name] = growth[head.field]
    return growth


def turned(handler, ends):
    """Return the handler with the given ends that does the same; raise TooFar if it cannot be written."""
    growth = growth_of(handler, ends)
    steps = [*handler.head_lines, *handler.statements]
    text = "\n".join([step.shifted(growth).written() for step in steps])
    return Handler.read(text, ends)
