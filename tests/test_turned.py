"""Point 30: handlers written for the other ends."""

import itertools
import unittest

from untilrows import handlers
from untilrows.books import Book
from untilrows.errors import NoDay, TooFar
from untilrows.handlers import Handler, turned
from untilrows.rows import Ends

LAST, NEXT = Ends.LAST_DAY, Ends.NEXT_DAY
MOST = 1000000000

# Lines of LAST_DAY, and the same lines as NEXT_DAY has them.
PAIRS = [
    ("drop where first = d", "drop where first = d"),
    ("drop where first < first + 1", "drop where first < first + 1"),
    ("drop where until = d", "drop where until = d + 1"),
    ("drop where until >= d - 1", "drop where until >= d"),
    ("drop where until >= d - 2", "drop where until >= d - 1"),
    ("drop where until > e + 7 or empty", "drop where until > e + 8 or empty"),
    ("drop where until is empty and until is not empty", "drop where until is empty and until is not empty"),
    ("drop where until < until + 3", "drop where until < until + 3"),
    ("drop where until = first", "drop where until = first + 1"),
    ("drop where first = until", "drop where first = until - 1"),
    ("drop where first = until + 1", "drop where first = until"),
    ("set until = d - 1 where until is empty", "set until = d where until is empty"),
    ("set until = empty where first = d", "set until = empty where first = d"),
    ("set first = until + 1 where first = d", "set first = until where first = d"),
    ("set first = until and until = first where first = d",
     "set first = until - 1 and until = first + 1 where first = d"),
    ("copy first = e + 1 and until = until where until > e", "copy first = e + 1 and until = until where until > e + 1"),
    ("add from d until empty", "add from d until empty"),
    ("add from d until e", "add from d until e + 1"),
    ("add from d + 4 until e - 1", "add from d + 4 until e"),
    (f"drop where until = d + {MOST - 1}", f"drop where until = d + {MOST}"),
    (f"drop where first = until - {MOST - 1}", f"drop where first = until - {MOST}"),
    (f"drop where until = d - {MOST}", f"drop where until = d - {MOST - 1}"),
    (f"drop where first = until + {MOST}", f"drop where first = until + {MOST - 1}"),
    ("read low = least first where first < d - 2\nadd from low until low",
     "read low = least first where first < d - 2\nadd from low until low + 1"),
    ("read high = greatest until where until < d or empty\nadd from high + 1 until high",
     "read high = greatest until where until < d + 1 or empty\nadd from high until high"),
    ("read high = greatest until where until < d\nread low = least first where first > high\n"
     "set until = high where first = high + 3 and until = low",
     "read high = greatest until where until < d + 1\nread low = least first where first > high - 1\n"
     "set until = high where first = high + 2 and until = low + 1"),
    ("flag up = until = d - 1 and until is not empty\ndrop where first = d if up\nadd from d until d unless up",
     "flag up = until = d and until is not empty\ndrop where first = d if up\nadd from d until d + 1 unless up"),
    ("flag up = until is empty\nset until = d where until is empty unless up\n"
     "copy until = d where until is empty if up",
     "flag up = until is empty\nset until = d + 1 where until is empty unless up\n"
     "copy until = d + 1 where until is empty if up"),
]


class TurnedTest(unittest.TestCase):
    def test_it_is_defined_where_it_is_listed(self):
        self.assertEqual(turned.__module__, "untilrows.handlers")
        self.assertIs(handlers.turned, turned)

    def test_both_ways(self):
        for last, following in PAIRS:
            with self.subTest(last):
                self.assertEqual(turned(Handler.read(last, LAST), NEXT), Handler.read(following, NEXT))
                self.assertEqual(turned(Handler.read(following, NEXT), LAST), Handler.read(last, LAST))

    def test_the_same_ends(self):
        for last, following in PAIRS:
            for text, ends in [(last, LAST), (following, NEXT)]:
                handler = Handler.read(text, ends)
                self.assertEqual(turned(handler, ends), handler)

    def test_the_handler_stays(self):
        handler = Handler.read(PAIRS[3][0])
        turned(handler, NEXT)
        self.assertEqual(handler, Handler.read(PAIRS[3][0]))

    def line_too_far(self, text, ends, other):
        with self.assertRaises(TooFar) as caught:
            turned(Handler.read(text, ends), other)
        return caught.exception.number

    def test_too_far(self):
        fine = "drop where until = d"
        self.assertEqual(self.line_too_far(f"drop where until = d + {MOST}", LAST, NEXT), 1)
        self.assertEqual(self.line_too_far(f"drop where first = until - {MOST}", LAST, NEXT), 1)
        self.assertEqual(self.line_too_far(f"drop where until = d - {MOST}", NEXT, LAST), 1)
        self.assertEqual(self.line_too_far(f"drop where first = until + {MOST}", NEXT, LAST), 1)
        self.assertEqual(self.line_too_far(f"{fine}\nadd from d until e + {MOST}\nadd from d until e + {MOST}",
                                           LAST, NEXT), 2)
        self.assertEqual(self.line_too_far(f"flag up = until < d + {MOST}\n{fine}", LAST, NEXT), 1)
        self.assertEqual(self.line_too_far(f"read up = least until where until < d\nadd from up - {MOST} until empty",
                                           LAST, NEXT), 2)
        self.assertEqual(self.line_too_far(f"{fine}\n{fine}\nset until = d + {MOST} where first = d", LAST, NEXT), 3)
        self.assertEqual(self.line_too_far(f"{fine}\ncopy first = until - {MOST} where first = d", LAST, NEXT), 2)

    def test_the_limit_itself_is_not_too_far(self):
        for text in [f"drop where until = until + {MOST}", f"drop where first = first - {MOST}",
                     f"drop where first = d + {MOST}", f"drop where until = first - {MOST}"]:
            handler = Handler.read(text, LAST)
            self.assertEqual(turned(turned(handler, NEXT), LAST), handler)
            self.assertEqual(turned(handler, LAST), handler)
        self.assertEqual(turned(Handler.read(f"drop where until = d + {MOST}"), LAST).lines,
                         (f"drop where until = d + {MOST}",))

    def result(self, handler, book, d, e):
        try:
            return handler(book, d, e, "new")
        except NoDay as error:
            return error.number

    def test_a_turned_handler_does_the_same(self):
        books = [[], [(2, 2, 1)], [(1, None, 1)], [(0, 1, 1), (2, 4, 2)], [(0, 0, 1), (3, 4, 2), (5, None, 3)]]
        for (text, _), rows in itertools.product(PAIRS, books):
            handler, book = Handler.read(text), Book(*rows)
            other, twin = turned(handler, NEXT), book.turned(NEXT)
            for d, e in itertools.product(range(-1, 7), [None, *range(-1, 7)]):
                left = self.result(handler, book, d, e)
                if isinstance(left, list):
                    left = [(first, None if until is None else until + 1, value) for first, until, value in left]
                self.assertEqual(self.result(other, twin, d, e), left, (text, rows, d, e))


if __name__ == "__main__":
    unittest.main()
