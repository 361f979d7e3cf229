"""Point 29: whether two handlers do the same."""

import collections
import inspect
import unittest

import naive
import slow
from untilrows.books import Book
from untilrows.errors import OtherEnds, RowsError, TooMany
from untilrows.faults import shown
from untilrows.handlers import Handler, turned
from untilrows.rows import Ends
from untilrows.verdicts import alike

LAST, NEXT = Ends.LAST_DAY, Ends.NEXT_DAY

# Pairs that do the same by rows, in the order of the two handlers and with the days of a call.
SAME_ROWS = [
    ("drop where first >= d", "drop where first > d\ndrop where first = d", False),
    ("drop where first > d - 1 and until < d + 5", "drop where until <= d + 4 and first >= d", False),
    ("add from d until d + 3\nadd from d until empty", "add from d until empty\nadd from d until d + 3", False),
    ("set until = until where first < d", "drop where until < first", False),
    (slow.RIGHT["set"], slow.RIGHT["set"].replace("or empty\ndrop", "or empty\ndrop where first > d + 3\ndrop"), False),
    (slow.RIGHT["between"], slow.RIGHT["between"].replace("first >= d and first <= e", "first <= e and first > d - 1"),
     True),
]

# Pairs that show the same on each day, but leave other rows.
SAME_DAYS = [
    ("drop where first >= d", "set until = first - 1 where first >= d", False),
    ("set until = d - 1 where first < d and until >= d",
     "set until = d - 1 where first < d and until >= d\ncopy until = first - 1 where first = d", False),
    ("add from d until empty", "add from d until d\nadd from d + 1 until empty", False),
    ("set until = until where first = d", "copy first = d and until = until where first < d and until >= d or empty\n"
     "set until = d - 1 where first < d and until >= d or empty", False),
]

# A pair that leaves the same days if e is not before d + 1.
TWO_ADDS = ("add from d until e", "add from d until d + 1\nadd from d + 2 until e")


def left_by(text, book, d, e):
    found = naive.run(text, list(book), d, e)
    return None if isinstance(found, int) else found


def unlike(one, other, book, d, e, by):
    """Return True if the calls differ on the book, or one of them fails."""
    rows, others = left_by(one, book, d, e), left_by(other, book, d, e)
    if rows is None or others is None:
        return True
    if by == "rows":
        return collections.Counter(rows) != collections.Counter(others)
    borders = [day for first, until, _ in rows + others for day in (first, until) if day is not None]
    days = {day + step for day in borders for step in (-1, 0, 1)}
    return any(sorted(shown(rows, day, book.ends)) != sorted(shown(others, day, book.ends)) for day in days)


class AlikeCase(unittest.TestCase):
    def check(self, one, other, shape, by, two_days, ends=LAST, width=5, most=25):
        """Compare the verdict with a slow walk over small books; return the number of rows, or None."""
        one, other = turned(Handler.read(one), ends), turned(Handler.read(other), ends)
        verdict = alike(one, other, shape=shape, by=by, two_days=two_days)
        told = (str(one), str(other), shape, by, two_days, ends)
        number = 1 + one.heads + other.heads
        counts = range(min({"apart": number, "solid": 2 * number - 1, "lasting": 2 * number}[shape], 3) + 1)
        self.assertIs(bool(verdict), verdict.holds)
        self.assertIsNone(verdict.fault)
        if verdict.holds:
            self.assertEqual([verdict.count, verdict.book, verdict.d, verdict.e], [None] * 4)
        else:
            self.assertIs(verdict.holds, False)
            self.assertIsInstance(verdict.book, Book)
            self.assertTrue(verdict.book.fits(shape))
            self.assertEqual(verdict.book.ends, ends)
            self.assertEqual([value for _, _, value in verdict.book], list(range(1, verdict.count + 1)))
            self.assertEqual(verdict.e is not None, two_days)
            self.assertTrue(unlike(str(one), str(other), verdict.book, verdict.d, verdict.e, by), told)
            counts = range(verdict.count)
        for count in counts:
            for book in slow.some(slow.books(count, shape, ends, width), most, count):
                for d, e in slow.calls(width, two_days):
                    self.assertFalse(unlike(str(one), str(other), book, d, e, by), (told, list(book), d, e))
        return verdict.count


class AlikeTest(AlikeCase):
    def test_arguments(self):
        told = inspect.signature(alike).parameters.values()
        self.assertEqual([(arg.name, arg.kind == arg.KEYWORD_ONLY) for arg in told],
                         [("one", False), ("other", False), ("shape", True), ("by", True), ("two_days", True)])
        self.assertEqual([arg.default for arg in told][2:], ["apart", "days", False])
        one, other = Handler.read(SAME_DAYS[0][0]), Handler.read(SAME_DAYS[0][1])
        self.assertTrue(alike(one, other))
        self.assertFalse(alike(two_days=True, by="rows", shape="solid", other=other, one=one))
        with self.assertRaises(TypeError):
            alike(one, other, "apart")

    def test_alike_by_rows(self):
        for one, other, two_days in SAME_ROWS:
            for shape in slow.SHAPES:
                for ends in slow.ENDS:
                    for by in ("rows", "days"):
                        self.assertIsNone(self.check(one, other, shape, by, two_days, ends))
                        self.assertIsNone(self.check(other, one, shape, by, two_days, ends))

    def test_alike_by_days_alone(self):
        for one, other, two_days in SAME_DAYS:
            for shape in slow.SHAPES:
                for ends in slow.ENDS:
                    by_days = self.check(one, other, shape, "days", two_days, ends)
                    by_rows = self.check(one, other, shape, "rows", two_days, ends)
                    self.assertIsNone(by_days)
                    self.assertIsNotNone(by_rows)

    def test_the_second_day(self):
        for shape, count in [("apart", 0), ("solid", 0), ("lasting", 1)]:
            self.assertEqual(self.check(*TWO_ADDS, shape, "days", True), count)
        verdict = alike(*map(Handler.read, TWO_ADDS), two_days=True)
        self.assertLess(verdict.e, verdict.d + 1)
        pair = "drop where first < e", "drop where first < e and first < d"
        self.assertIsNone(self.check(*pair, "apart", "days", False))
        self.assertEqual(self.check(*pair, "apart", "days", True), 1)

    def test_the_shapes(self):
        # Rows that touch have no days between them.
        one = "read then = least first where first > d\ndrop where until < d\nset until = d + 1 where first = then"
        for by in ("days", "rows"):
            for shape in slow.SHAPES:
                self.assertEqual(self.check(one, "drop where until < d", shape, by, False), 1)
        one = "set until = d where until = d - 1"
        other = "read then = least first where first >= d\nset until = d where until = then - 1 and until = d - 1"
        self.assertEqual(self.check(one, other, "apart", "rows", False), 1)
        self.assertEqual(self.check(one, other, "solid", "rows", False), 1)
        self.assertIsNone(self.check(one, other, "lasting", "rows", False))

    def test_small_faults(self):
        answers = {}
        for one in list(slow.RIGHT.values()) + [pair[1] for pair in SAME_DAYS]:
            two_days = " e" in one
            for place, other in enumerate(slow.faulty(one)):
                try:
                    handler = Handler.read(other)
                except RowsError:
                    continue
                if handler.heads + Handler.read(one).heads > 2:
                    continue
                shape, by = slow.SHAPES[place % 3], ("days", "rows")[place % 2]
                ends = slow.ENDS[place // 6 % 2]
                count = self.check(one, other, shape, by, two_days, ends, 5, 10)
                answers[count] = answers.get(count, 0) + 1
        for count in (None, 0, 1, 2):
            self.assertIn(count, answers)

    def test_each_value_equally_often(self):
        one = "copy until = until where first = d"
        for by in ("days", "rows"):
            self.assertEqual(self.check(one, one + "\ncopy until = until where first = d", "apart", by, False), 1)
            self.assertIsNone(self.check(one + "\ncopy until = until where first < d",
                                         "copy until = until where first < d\n" + one, "apart", by, False))

    def test_a_handler_that_can_fail_is_alike_to_none(self):
        for text in ["read then = least first where first > d\nadd from then until empty",
                     "set first = until where first >= d", "set first = e where first = d"]:
            for shape in slow.SHAPES:
                for by in ("days", "rows"):
                    self.assertIsNotNone(self.check(text, text, shape, by, False))
                    self.assertIsNotNone(self.check(text, "drop where first = d", shape, by, False))
                    self.assertIsNotNone(self.check("drop where first = d", text, shape, by, False))
        # With a second day the last of them cannot fail.
        self.assertIsNone(self.check(text, text, "apart", "rows", True))

    def test_heads_of_both(self):
        one = "read near = least first where first > d\nset until = near where first < d"
        other = "read far = least first where first >= d + 1\nset until = far where first < d"
        for shape in slow.SHAPES:
            self.assertIsNone(self.check(one, other, shape, "rows", False))
            self.assertIsNone(self.check(one, other.replace("far", "near"), shape, "rows", False))
        other = other.replace("d + 1", "d")
        for shape in slow.SHAPES:
            self.assertEqual(self.check(one, other, shape, "rows", False), 2)

    def test_the_fewest_rows(self):
        # They differ on a short row that lies between two others only.
        one = ("read near = greatest until where until < d - 1\nread far = least first where first > d + 1\n"
               "drop where first > near + 1 and first < far - 2 and until < first + 1")
        other = "drop where first > d + 90 and first < d - 90"
        for shape, count in [("apart", 3), ("solid", 5), ("lasting", 5)]:
            self.assertEqual(self.check(one, other, shape, "days", False, LAST, 7, 20), count)


class ErrorTest(unittest.TestCase):
    def test_other_ends(self):
        text = "flag some = first > d\ndrop where first > d if some"
        one, other = Handler.read(text), Handler.read(text, NEXT)
        for pair, ends in [((one, other), NEXT), ((other, one), LAST)]:
            with self.assertRaises(OtherEnds) as caught:
                alike(*pair)
            self.assertEqual(caught.exception.ends, ends)

    def test_too_many_head_lines(self):
        both = Handler.read("flag some = first > d\nflag none = first < d\ndrop where first > d if some")
        single = Handler.read("flag some = first > d\ndrop where first > d if some")
        bare = Handler.read("drop where first > d")
        for pair in [(both, single), (single, both), (both, both)]:
            with self.assertRaises(TooMany) as caught:
                alike(*pair)
            self.assertEqual(caught.exception.most, 2)
        self.assertTrue(alike(both, bare))
        self.assertTrue(alike(single, single))

    def test_other_ends_go_ahead(self):
        text = "flag some = first > d\nflag none = first < d\ndrop where first > d if some"
        with self.assertRaises(OtherEnds):
            alike(Handler.read(text), Handler.read(text, NEXT))


if __name__ == "__main__":
    unittest.main()
