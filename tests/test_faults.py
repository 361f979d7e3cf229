"""Points 21 to 24: faults and culprits."""

import itertools
import unittest

import naive
from untilrows import faults
from untilrows.books import Book, Shape
from untilrows.errors import NotAllowed, NothingWrong, OtherEnds
from untilrows.faults import Fault, culprits, enough, fault_of, shown
from untilrows.handlers import Handler
from untilrows.operations import Operation, operation
from untilrows.rows import Ends

HUGE = 10 ** 60 - 1
LAST, NEXT = Ends.LAST_DAY, Ends.NEXT_DAY

# A right handler for "set", and the same without its first line, its second line or its third line.
RIGHT = ("set until = d - 1 where first < d and until >= d or empty\ndrop where first >= d\n"
         "add from d until empty")
NO_CUT = "\n".join(RIGHT.split("\n")[1:])
NO_DROP = "\n".join([RIGHT.split("\n")[0], RIGHT.split("\n")[2]])
NO_ADD = "\n".join(RIGHT.split("\n")[:2])


def told(fault):
    """Return all attributes of the fault."""
    return fault and (fault.kind, fault.line, fault.row, fault.day, fault.shown, fault.wanted)


def fault(text, word, rows, d, e=None, value=0, ends=LAST):
    return told(fault_of(Handler.read(text, ends), operation(word), Book.from_rows(rows, ends), d, e, value))


class InterfaceTest(unittest.TestCase):
    def test_what_is_listed_is_defined_where_it_is_listed(self):
        for found in [Fault, shown, fault_of, enough, culprits]:
            self.assertEqual(found.__module__, "untilrows.faults")
            self.assertIs(getattr(faults, found.__name__), found)


class ShownTest(unittest.TestCase):
    ROWS = [(5, None, "b"), (1, 5, 7), (5, 4, 0), (5, 5, "7"), (6, 6, 1), (9, -9, 2), (1, 5, 7)]

    def test_the_values_in_the_order_of_the_rows(self):
        self.assertEqual(shown(self.ROWS, 5), ["b", 7, "7", 7])
        self.assertEqual(shown(self.ROWS, 6), ["b", 1])
        self.assertEqual(shown(self.ROWS, 1), [7, 7])
        self.assertEqual(shown(self.ROWS, 0), [])
        self.assertEqual(shown([], 0), [])

    def test_the_ends(self):
        self.assertEqual(shown(self.ROWS, 5, NEXT), ["b"])
        self.assertEqual(shown(self.ROWS, 4, NEXT), [7, 7])
        self.assertEqual(shown(self.ROWS, 5, ends=LAST), shown(self.ROWS, 5))

    def test_empty_rows_bear_no_day(self):
        for ends, rows in [(LAST, [(3, 2, 1)]), (NEXT, [(3, 3, 1), (3, 2, 1)])]:
            for day in range(0, 6):
                self.assertEqual(shown(rows, day, ends), [])

    def test_the_list_is_new(self):
        rows = [(1, 5, 7)]
        shown(rows, 3).append(8)
        self.assertEqual((shown(rows, 3), rows), ([7], [(1, 5, 7)]))

    def test_days_of_sixty_digits(self):
        self.assertEqual(shown([(-HUGE, HUGE, 1), (HUGE, None, 2)], HUGE), [1, 2])
        self.assertEqual(shown([(-HUGE, HUGE, 1), (HUGE, None, 2)], -HUGE), [1])


class FaultOfTest(unittest.TestCase):
    ROWS = [(1, 4, 1), (5, 7, 2), (8, None, 3)]

    def test_a_call_that_is_not_wrong(self):
        for rows in [self.ROWS, [], [(9, 9, 9)]]:
            for d in range(-1, 12):
                self.assertIsNone(fault(RIGHT, "set", rows, d))

    def test_a_call_that_fails(self):
        self.assertEqual(fault("drop where first = d\nadd from e until empty", "set", self.ROWS, 5),
                         ("fails", 2, None, None, None, None))
        self.assertEqual(fault("set first = until where first > d", "set", self.ROWS, 5),
                         ("fails", 1, None, None, None, None))

    def test_failing_comes_ahead_of_empty_rows_and_wrong_days(self):
        self.assertEqual(fault("set until = first - 1 where first = d\nadd from e until empty", "set", self.ROWS, 5),
                         ("fails", 2, None, None, None, None))

    def test_an_empty_row(self):
        text = "set until = d - 1 where until >= d or empty\nadd from d until empty"
        self.assertEqual(fault(text, "set", self.ROWS, 5), ("empty", None, (5, 4, 2), None, None, None))
        self.assertEqual(fault(text, "set", self.ROWS, 6), ("empty", None, (8, 5, 3), None, None, None))

    def test_the_first_empty_row_in_the_list_is_told(self):
        text = "add from e until d\nset first = d + 20 where first = d"
        self.assertEqual(fault(text, "between", self.ROWS, 5, 9),
                         ("empty", None, (25, 7, 2), None, None, None))
        self.assertEqual(fault("add from e until d\nadd from d + 3 until d", "between", [], 5, 6),
                         ("empty", None, (6, 5, 0), None, None, None))

    def test_empty_rows_come_ahead_of_wrong_days(self):
        self.assertEqual(fault("set until = first - 1 where first >= d", "set", self.ROWS, -5),
                         ("empty", None, (1, 0, 1), None, None, None))

    def test_empty_rows_of_the_other_ends(self):
        text = "set until = d where until >= d or empty\nadd from d until empty"
        rows = [(1, 5, 1), (5, 8, 2)]
        self.assertEqual(fault(text, "set", rows, 5, ends=NEXT), ("empty", None, (5, 5, 2), None, None, None))
        self.assertIsNone(fault(text, "set", rows, 7, ends=NEXT))

    def test_a_wrong_day(self):
        self.assertEqual(fault(NO_CUT, "set", self.ROWS, 6), ("day", None, None, 6, [2, 0], 0))
        self.assertEqual(fault(NO_DROP, "set", [(8, 9, 3), (11, None, 4)], 6),
                         ("day", None, None, 8, [3, 0], 0))
        self.assertEqual(fault(NO_ADD, "set", self.ROWS, 6), ("day", None, None, 6, [], 0))
        self.assertEqual(fault(NO_ADD, "set", self.ROWS, -3), ("day", None, None, -3, [], 0))
        self.assertEqual(fault(RIGHT, "end", self.ROWS, 6), ("day", None, None, 6, [0], None))
        self.assertEqual(fault("drop where first > d", "end", self.ROWS, 6), ("day", None, None, 6, [2], None))

    def test_the_least_wrong_day(self):
        self.assertEqual(fault("drop where first <= d", "set", self.ROWS, 6), ("day", None, None, 1, [], 1))
        self.assertEqual(fault("drop where first = d", "take", self.ROWS, 8), None)
        self.assertEqual(fault("drop where first < d", "take", self.ROWS, 8), ("day", None, None, 1, [], 1))
        self.assertEqual(fault("drop where first = e\nadd from d until empty", "between", self.ROWS, 6, 8),
                         ("day", None, None, 6, [2, 0], 0))
        self.assertEqual(fault("drop where first = d\nadd from e until empty", "clear", self.ROWS, 5, 9),
                         ("day", None, None, 8, [3], None))
        self.assertEqual(fault("drop where first > e\nadd from d until d", "between", self.ROWS, 9, 9),
                         ("day", None, None, 9, [3, 0], 0))

    def test_a_value_that_is_shown_twice(self):
        self.assertEqual(fault(f"{RIGHT}\nadd from d + 5 until empty", "set", self.ROWS, 6),
                         ("day", None, None, 11, [0, 0], 0))
        self.assertEqual(fault("copy until = until where first = d", "take", [(1, 4, 1)], 1),
                         ("day", None, None, 1, [1, 1], None))

    def test_the_shown_values_stand_in_the_order_of_the_rows_left(self):
        text = ("add from d until d\nadd from d until empty\n"
                "copy first = d and until = d where until is empty and first < d")
        self.assertEqual(fault(text, "set", [(1, None, "a")], 6, value="v"),
                         ("day", None, None, 6, ["a", "a", "v", "v"], "v"))

    def test_a_row_with_the_value_that_is_due_will_do(self):
        self.assertIsNone(fault("drop where first > d", "set", [(1, None, 0)], 6))
        self.assertEqual(fault("drop where first > d", "set", [(1, None, "0")], 6), ("day", None, None, 6, ["0"], 0))
        self.assertEqual(fault("drop where first > d", "set", [(1, None, 0)], 6, value="0"),
                         ("day", None, None, 6, [0], "0"))

    def test_the_wanted_value_of_a_row_that_stays(self):
        self.assertEqual(fault("drop where first > d", "between", self.ROWS, 1, 1)[3:], (1, [1], 0))
        self.assertEqual(fault("drop where first > d\nset until = e where first = d\nadd from d until e",
                               "clear", self.ROWS, 4, 4)[3:], (4, [1, 0], None))
        self.assertEqual(fault("drop where first > d", "take", self.ROWS, 1)[3:], (1, [1], None))
        self.assertEqual(fault("drop where first >= d", "take", self.ROWS, 1)[3:], (5, [], 2))

    def test_an_open_row_that_should_have_an_end(self):
        self.assertEqual(fault("set until = empty where first = d", "give", [(1, 4, 1), (9, 9, 2)], 1)[3:],
                         (1, [1], None))
        self.assertEqual(fault("add from d until empty", "between", [], 3, 4), ("day", None, None, 5, [0], None))
        self.assertEqual(fault("add from d until e", "set", [], 3), None)
        self.assertEqual(fault("add from d until d + 9", "set", [], 3), ("day", None, None, 13, [], 0))

    def test_other_ends_come_first(self):
        for one, other in [(LAST, NEXT), (NEXT, LAST)]:
            handler = Handler.read("add from e until d", one)
            for asked in [fault_of, culprits]:
                with self.assertRaises(OtherEnds) as caught:
                    asked(handler, operation("take"), Book(ends=other), 3)
                self.assertEqual(caught.exception.ends, other)

    def test_calls_that_are_not_allowed(self):
        handler = Handler.read("add from e until d")
        for word, e in [("take", None), ("give", None), ("move", 4), ("set", 4), ("clear", 2), ("between", None)]:
            for asked in [fault_of, culprits]:
                with self.assertRaises(NotAllowed) as caught:
                    asked(handler, operation(word), Book(), 3, e)
                self.assertEqual(caught.exception.word, word)

    def test_arguments_by_name(self):
        found = fault_of(Handler.read("add from d until e"), operation("between"), Book(), 3, value=7, e=4)
        self.assertIsNone(found)
        found = fault_of(Handler.read("add from e until d"), operation("between"), Book(), value=7, e=4, d=3)
        self.assertEqual(found.row, (4, 3, 7))

    def test_the_book_stays(self):
        book = Book(*self.ROWS)
        fault_of(Handler.read(NO_CUT), operation("set"), book, 6)
        self.assertEqual(list(book), self.ROWS)

    def test_many_rows(self):
        rows = [(3 * k, 3 * k + 1, k) for k in range(2000)]
        self.assertIsNone(fault(RIGHT, "set", rows, 3001))
        self.assertEqual(fault(NO_CUT, "set", rows, 3001), ("day", None, None, 3001, [1000, 0], 0))
        self.assertEqual(fault("drop where first > d\nset until = empty where first = d", "take", rows, 5997),
                         ("day", None, None, 5997, [1999], None))

    def test_days_of_sixty_digits(self):
        rows = [(-HUGE, HUGE, 1)]
        self.assertIsNone(fault(RIGHT, "set", rows, HUGE))
        self.assertEqual(fault(NO_CUT, "set", rows, HUGE), ("day", None, None, HUGE, [1, 0], 0))
        self.assertEqual(fault(RIGHT, "end", rows, -HUGE), ("day", None, None, -HUGE, [0], None))


class ModelTest(unittest.TestCase):
    """Faults of many calls, compared with the days one by one."""

    TEXTS = [
        RIGHT, NO_CUT, NO_DROP, NO_ADD,
        "read next = least first where first > d\nset until = d - 1 where first < d and until >= d or empty\n"
        "drop where first = d\nadd from d until next - 1",
        "copy first = e + 1 where first <= e and until > e or empty\n"
        "set until = d - 1 where first < d and until >= d or empty\ndrop where first >= d and first <= e\n"
        "add from d until e",
        "set until = e - 1 where until = d - 1\nset first = e where first = d",
        "flag up = first < d\nread low = greatest first where first < d\ndrop where first <= d and until >= d or empty\n"
        "set until = d where first = low if up",
        "set first = e where first = d\nset until = until + 1 where until < d",
        "drop where first <= d and until >= d or empty",
    ]
    BOOKS = [[], [(2, 2, 1)], [(1, None, 0)], [(0, 1, 1), (2, 4, 2)], [(0, 0, 1), (3, 4, 1), (5, None, 2)],
             [(1, 2, 0), (4, 4, "0"), (5, 8, 1)]]
    DAYS = range(-6, 24)

    def model(self, text, word, book, d, e, value):
        rows = naive.run(text, list(book), d, e, value)
        if isinstance(rows, int):
            return ("fails", rows, None, None, None, None)
        stops = [row[1] if row[1] is None or book.ends == NEXT else row[1] + 1 for row in rows]
        for row, stop in zip(rows, stops):
            if stop is not None and stop <= row[0]:
                return ("empty", None, row, None, None, None)
        table = operation(word).due(book, d, e, value)
        for day in self.DAYS:
            values = [row[2] for row, stop in zip(rows, stops) if row[0] <= day and (stop is None or day < stop)]
            wanted = table[day]
            if values != ([] if wanted is None else [wanted]):
                return ("day", None, None, day, values, wanted)
        return None

    def each_call(self):
        for text, rows, word in itertools.product(self.TEXTS, self.BOOKS, Operation.WORDS):
            asked = operation(word)
            for ends in [LAST, NEXT]:
                handler, book = Handler.read(text, ends), Book(*rows).turned(ends)
                days = [d for d in range(-1, 10)]
                for d, e in itertools.product(days, days if asked.two_days else [None]):
                    if asked.allows(book, d, e):
                        yield text, handler, asked, book, d, e

    def test_many_calls(self):
        kinds = {}
        for text, handler, asked, book, d, e in self.each_call():
            found = told(fault_of(handler, asked, book, d, e))
            self.assertEqual(found, self.model(text, asked.word, book, d, e, 0), (text, asked.word, list(book), d, e))
            kinds[found and found[0]] = kinds.get(found and found[0], 0) + 1
            if found is None:
                with self.assertRaises(NothingWrong):
                    culprits(handler, asked, book, d, e)
            else:
                check_culprits(self, handler, asked, book, d, e, 0)
        self.assertTrue(all(kinds.get(kind, 0) > 50 for kind in [None, "fails", "empty", "day"]), kinds)


def check_culprits(case, handler, asked, book, d, e, value):
    """Check all that point 24 says of the culprits of a wrong call; return them."""
    before = list(book)
    fault = fault_of(handler, asked, book, d, e, value)
    few = culprits(handler, asked, book, d, e, value)
    case.assertIsInstance(few, Book)
    case.assertIsNot(few, book)
    case.assertEqual(list(book), before)
    case.assertEqual(few.ends, book.ends)
    case.assertEqual([row for row in few if row not in before], [])
    case.assertLessEqual(len(few), enough(handler, asked))
    case.assertTrue(asked.allows(few, d, e))
    again = fault_of(handler, asked, few, d, e, value)
    if fault.kind == "day":
        rows = naive.run(str(handler), list(few), d, e, value)
        wanted = asked.due(few, d, e, value)[fault.day]
        case.assertNotEqual(shown(rows, fault.day, few.ends), [] if wanted is None else [wanted])
    else:
        case.assertEqual((again.kind, again.line), (fault.kind, fault.line))
    return few


class EnoughTest(unittest.TestCase):
    HEADS = ["flag one = first = d\n", "flag two = first < d\n"]

    def test_the_three_shapes(self):
        for word, named in [("set", 0), ("end", 0), ("fill", 1), ("between", 0), ("clear", 0), ("take", 1),
                            ("give", 2), ("move", 2)]:
            for heads in [0, 1, 2]:
                handler = Handler.read("".join(self.HEADS[:heads]) + "drop where first = d")
                k = 1 + named + heads
                asked = operation(word)
                self.assertEqual(enough(handler, asked), k)
                self.assertEqual([enough(handler, asked, shape) for shape in ["apart", "solid", "lasting"]],
                                 [k, 2 * k - 1, 2 * k])
                self.assertEqual(enough(handler, asked, shape=Shape.SOLID), 2 * k - 1)


class CulpritsTest(unittest.TestCase):
    def few(self, text, word, rows, d, e=None, value=0, ends=LAST):
        handler, book = Handler.read(text, ends), Book.from_rows(rows, ends)
        return list(check_culprits(self, handler, operation(word), book, d, e, value))

    def test_no_row_is_needed(self):
        self.assertEqual(len(self.few("add from e until d", "set", [(1, 2, 1)], 5)), 0)
        self.assertEqual(self.few("add from d until d", "set", [], 5), [])

    def test_the_rows_that_are_needed(self):
        rows = [(3 * k, 3 * k + 2, k) for k in range(20)]
        self.assertEqual(self.few(NO_CUT, "set", rows, 31), [(30, 32, 10)])
        self.assertEqual(self.few("set first = until + 1 where first >= d", "set", rows, 58), [])
        self.assertEqual(self.few("set first = until + 1 where first >= d", "set", rows, 57), [(57, 59, 19)])
        self.assertEqual(self.few("copy first = until where until is empty", "take", [*rows, (60, None, 0)], 4),
                         [(3, 5, 1), (60, None, 0)])

    def test_rows_that_have_the_value_but_are_innocent(self):
        rows = [(1, 2, 0), (3, 4, 0), (5, 9, 0), (10, 11, 0), (12, None, 0)]
        self.assertEqual(self.few(NO_CUT, "set", rows, 6), [(5, 9, 0)])
        self.assertEqual(self.few(f"{RIGHT}\nset until = d + 3 where first = d", "fill", rows[2:], 6), [(10, 11, 0)])
        self.assertEqual(self.few("set until = until + 1 where first = d + 1\ndrop where first = d", "take",
                                  [(1, 2, 0), (3, 3, 0), (4, 4, 0), (6, 6, 0)], 3), [(3, 3, 0), (4, 4, 0)])

    def test_rows_that_put_up_flags_and_are_read(self):
        text = ("flag busy = first = d\nread last = greatest until where until < d\nadd from last until empty if busy\n"
                "drop where first > d")
        rows = [(k, k, k) for k in range(50)]
        few = self.few(text, "end", rows, 30)
        self.assertIn((30, 30, 30), few)
        self.assertIn((29, 29, 29), few)

    def test_an_open_row_that_is_read_is_needed(self):
        text = "read last = greatest until where until >= d or empty\nadd from last until empty"
        rows = [(1, 2, 1), (3, 4, 2), (5, 6, 3), (7, None, 4)]
        self.assertEqual(self.few(text, "set", rows, 2), [(7, None, 4)])

    def test_a_thousand_rows(self):
        rows = [(3 * k, 3 * k + 1, k % 5) for k in range(2000)]
        text = "read low = least first where first > d\nset until = low where first >= e and first <= e"
        self.assertEqual(self.few(text, "between", rows, 7, 5997), [(9, 10, 3), (5997, 5998, 4)])
        text = "drop where first = d\nset until = until + 3 where first > d and first < d + 5"
        self.assertEqual(self.few(text, "take", rows, 4500), [(4500, 4501, 0), (4503, 4504, 1)])

    def test_the_other_ends(self):
        text = "set until = d + 1 where until > d or empty\nadd from d until empty\ndrop where first > d"
        self.assertEqual(self.few(text, "set", [(1, 4, 1), (4, 9, 2)], 6, ends=NEXT), [(4, 9, 2)])

    def test_days_of_sixty_digits(self):
        rows = [(-HUGE, 0, 1), (1, HUGE, 2)]
        self.assertEqual(self.few(NO_CUT, "set", rows, HUGE), [(1, HUGE, 2)])

    def test_nothing_wrong_comes_last(self):
        handler = Handler.read(RIGHT)
        with self.assertRaises(NothingWrong):
            culprits(handler, operation("set"), Book((1, 4, 1)), 3)
        with self.assertRaises(NotAllowed):
            culprits(handler, operation("set"), Book((1, 4, 1)), 3, 4)
        with self.assertRaises(OtherEnds):
            culprits(handler, operation("set"), Book(ends=NEXT), 3, 4)

    def test_arguments_by_name(self):
        few = culprits(Handler.read("add from e until d"), operation("between"), Book((9, 9, 9)), value=7, e=4, d=3)
        self.assertEqual(list(few), [])


if __name__ == "__main__":
    unittest.main()
