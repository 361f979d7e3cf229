"""Points 15 to 18: what a call of a handler leaves."""

import itertools
import unittest

import naive
from untilrows.books import Book
from untilrows.errors import NoDay, OtherEnds
from untilrows.handlers import Call, Handler
from untilrows.rows import Ends

HUGE = 10 ** 60 - 1
LAST, NEXT = Ends.LAST_DAY, Ends.NEXT_DAY
ROWS = [(1, 4, "a"), (5, 5, 7), (8, None, "b")]


def left(lines, rows=ROWS, d=0, e=None, value=0, ends=LAST):
    """Return what the handler of these lines leaves of a book of these rows."""
    return Handler.read(lines, ends)(Book.from_rows(rows, ends), d, e, value)


def hit(tests, rows=ROWS, d=0, e=None, ends=LAST):
    """Return the first days of the rows for which the tests hold."""
    stay = [first for first, _, _ in left(f"drop where {tests}", rows, d, e, ends=ends)]
    return [first for first, _, _ in rows if first not in stay]


class TermsAndTestsTest(unittest.TestCase):
    def test_the_five_signs(self):
        for sign, firsts in [("<", [1]), ("<=", [1, 5]), ("=", [5]), (">=", [5, 8]), (">", [8])]:
            with self.subTest(sign):
                self.assertEqual(hit(f"first {sign} d", d=5), firsts)
        for sign, firsts in [("<", [1]), ("<=", [1, 5]), ("=", [5]), (">=", [5]), (">", [])]:
            with self.subTest(sign):
                self.assertEqual(hit(f"until {sign} d", d=5), firsts)
                self.assertEqual(hit(f"until {sign} d or empty", d=5), [*firsts, 8])

    def test_bases_and_amounts(self):
        self.assertEqual(hit("first = e", d=1, e=5), [5])
        self.assertEqual(hit("first = d + 3", d=5), [8])
        self.assertEqual(hit("first = d - 4", d=5), [1])
        self.assertEqual(hit("first = e + 1000000000", d=0, e=5 - 10 ** 9), [5])
        self.assertEqual(hit("until = first"), [5])
        self.assertEqual(hit("until = first + 3"), [1])
        self.assertEqual(hit("first = until - 3"), [1])
        self.assertEqual(hit("first = first"), [1, 5, 8])
        self.assertEqual(hit("until = until"), [1, 5])

    def test_a_missing_second_day(self):
        for sign in ["<", "<=", "=", ">=", ">"]:
            self.assertEqual(hit(f"first {sign} e"), [])
            self.assertEqual(hit(f"first {sign} e + 1"), [])
            self.assertEqual(hit(f"until {sign} e - 1"), [])
            self.assertEqual(hit(f"until {sign} e or empty"), [8])

    def test_an_empty_until(self):
        for sign in ["<", "<=", "=", ">=", ">"]:
            self.assertNotIn(8, hit(f"until {sign} d"))
            self.assertEqual(hit(f"first {sign} until", [(8, None, 1)]), [])
            self.assertEqual(hit(f"until {sign} until + 1 or empty", [(8, None, 1)]), [8])
        self.assertEqual(hit("until is empty"), [8])
        self.assertEqual(hit("until is not empty"), [1, 5])

    def test_each_of_several_tests_must_hold(self):
        self.assertEqual(hit("first > d and until is not empty", d=1), [5])
        self.assertEqual(hit("first >= d and until < e or empty and first < e", d=5, e=9), [5, 8])
        self.assertEqual(hit("until is not empty and first > d and first < d + 7", d=1), [5])
        self.assertEqual(hit("first > d and first < d", d=5), [])

    def test_the_until_is_taken_as_it_is_written(self):
        rows = [(1, 5, "a"), (5, 6, 7), (8, None, "b")]
        self.assertEqual(hit("until = d", rows, d=5, ends=NEXT), [1])
        self.assertEqual(hit("until = first + 1", rows, ends=NEXT), [5])


class ReadTest(unittest.TestCase):
    ROWS = [(1, 2, 1), (4, 5, 2), (7, 7, 3), (9, None, 4)]

    def read(self, line, rows=ROWS, d=0, e=None):
        """Return the day that the head line `read got = ..` reads."""
        return left(f"read got = {line}\nadd from d until got", rows, d, e)[-1][1]

    def test_least_and_greatest(self):
        self.assertEqual(self.read("least first where first > d", d=3), 4)
        self.assertEqual(self.read("greatest first where first < d", d=8), 7)
        self.assertEqual(self.read("greatest first where first > d", d=3), 9)
        self.assertEqual(self.read("least until where until > d", d=3), 5)
        self.assertEqual(self.read("greatest until where until < d", d=6), 5)
        self.assertEqual(self.read("least first where first > d and first > e", d=3, e=6), 7)

    def test_an_empty_until_is_greater_than_every_day(self):
        self.assertEqual(self.read("least until where until >= d or empty", d=6), 7)
        self.assertIsNone(self.read("least until where until >= d or empty", d=8))
        self.assertIsNone(self.read("greatest until where until >= d or empty", d=6))
        self.assertEqual(self.read("greatest until where until >= d", d=6), 7)
        self.assertIsNone(self.read("least until where until is empty", d=6))

    def test_no_such_row(self):
        self.assertIsNone(self.read("least first where first > d", d=9))
        self.assertIsNone(self.read("greatest until where until > d", d=9))
        self.assertIsNone(self.read("greatest first where first < e", d=9))
        self.assertIsNone(self.read("least first where first < d", rows=[]))

    def test_a_read_may_look_at_a_read_above(self):
        lines = ("read one = least first where first > d\nread two = least first where first > one + 2\n"
                 "add from one until two")
        self.assertEqual(left(lines, self.ROWS, 1)[-1], (4, 7, 0))
        with self.assertRaises(NoDay):
            left(lines, self.ROWS, 9)
        self.assertEqual(left(lines, self.ROWS, 7)[-1], (9, None, 0))

    def test_all_head_lines_look_at_the_book_as_the_call_found_it(self):
        lines = ("read next = least first where first > d\nflag busy = first = d\ndrop where first > d\n"
                 "drop where first = d\nadd from d until next - 1 if busy")
        self.assertEqual(left(lines, self.ROWS, 4), [(1, 2, 1), (4, 6, 0)])
        self.assertEqual(left(lines, self.ROWS, 5), [(1, 2, 1), (4, 5, 2)])

    def test_days_of_sixty_digits(self):
        rows = [(-HUGE, -HUGE, 1), (HUGE, None, 2)]
        self.assertEqual(self.read("least first where first > d", rows, -HUGE), HUGE)
        self.assertEqual(self.read("least until where until <= d", rows, 0), -HUGE)


class FlagTest(unittest.TestCase):
    def test_if_and_unless(self):
        lines = "flag busy = first <= d and first > e\nadd from d until empty if busy\nadd from e until empty unless busy"
        self.assertEqual(left(lines, ROWS, 5, 4)[3:], [(5, None, 0)])
        self.assertEqual(left(lines, ROWS, 5, 5)[3:], [(5, None, 0)])

    def test_a_flag_that_is_up_and_one_that_is_not(self):
        for kind, done in [("drop where first = d", [(1, 4, "a"), (8, None, "b")]),
                           ("set until = empty where first = d", [(1, 4, "a"), (5, None, 7), (8, None, "b")]),
                           ("copy until = empty where first = d",
                            [(1, 4, "a"), (5, 5, 7), (5, None, 7), (8, None, "b")]),
                           ("add from d until d", [*ROWS, (5, 5, 0)])]:
            with self.subTest(kind):
                self.assertEqual(left(f"flag up = first = d\n{kind} if up", ROWS, 5), done)
                self.assertEqual(left(f"flag up = first = d\n{kind} unless up", ROWS, 5), ROWS)
                self.assertEqual(left(f"flag up = until > d + 9\n{kind} if up", ROWS, 5), ROWS)
                self.assertEqual(left(f"flag up = until > d + 9\n{kind} unless up", ROWS, 5), done)

    def test_one_row_must_fulfil_all_tests_of_a_flag(self):
        lines = "flag up = first < d and first > e\nadd from d until d if up"
        self.assertEqual(left(lines, [(1, 1, 1), (9, 9, 1)], 4, 6), [(1, 1, 1), (9, 9, 1)])
        self.assertEqual(len(left(lines, [(1, 1, 1), (9, 9, 1)], 4, 0)), 3)

    def test_a_flag_of_an_empty_book_is_not_up(self):
        self.assertEqual(left("flag up = first <= d\nadd from d until d unless up", [], 3), [(3, 3, 0)])

    def test_a_flag_stays_as_it_was_when_the_call_began(self):
        lines = "flag up = first = d\ndrop where first = d\nadd from d until d if up"
        self.assertEqual(left(lines, [(3, 4, 1)], 3), [(3, 3, 0)])

    def test_a_skipped_statement_does_not_fail(self):
        lines = "flag up = first = d\nset first = e where first = d unless up\nadd from e until d unless up"
        self.assertEqual(left(lines, ROWS, 5), ROWS)


class StatementTest(unittest.TestCase):
    def test_drop(self):
        self.assertEqual(left("drop where first >= d", d=5), [(1, 4, "a")])
        self.assertEqual(left("drop where first > d", d=8), ROWS)
        self.assertEqual(left("drop where first > d", rows=[], d=8), [])

    def test_set(self):
        self.assertEqual(left("set first = d where first = e", d=-2, e=5),
                         [(1, 4, "a"), (-2, 5, 7), (8, None, "b")])
        self.assertEqual(left("set until = d where first >= e", d=9, e=5),
                         [(1, 4, "a"), (5, 9, 7), (8, 9, "b")])
        self.assertEqual(left("set until = empty where until is not empty"),
                         [(1, None, "a"), (5, None, 7), (8, None, "b")])

    def test_set_takes_both_fields_from_the_row_as_it_was(self):
        self.assertEqual(left("set first = until + 1 and until = first - 1 where first = d", d=1),
                         [(5, 0, "a"), (5, 5, 7), (8, None, "b")])
        self.assertEqual(left("set first = first + 1 and until = first where first = d", d=8)[2], (9, 8, "b"))

    def test_a_later_statement_sees_the_new_fields(self):
        self.assertEqual(left("set first = first + 1 where first = d\nset until = first where first = d + 1", d=1),
                         [(2, 2, "a"), (5, 5, 7), (8, None, "b")])

    def test_copy(self):
        self.assertEqual(left("copy first = d where until < d", d=6),
                         [(1, 4, "a"), (6, 4, "a"), (5, 5, 7), (6, 5, 7), (8, None, "b")])
        self.assertEqual(left("copy until = first where until is empty"), [*ROWS, (8, 8, "b")])
        self.assertEqual(left("copy first = until + 1 and until = first - 1 where first = d", d=1)[:2],
                         [(1, 4, "a"), (5, 0, "a")])
        self.assertEqual(left("copy until = empty where first = d", d=1)[:2], [(1, 4, "a"), (1, None, "a")])

    def test_copy_does_not_look_at_its_new_rows(self):
        self.assertEqual(left("copy first = first + 1 where first >= d", [(1, None, 1)], 1),
                         [(1, None, 1), (2, None, 1)])
        self.assertEqual(left("copy first = first + 1 where first >= d\ncopy first = first + 1 where first >= d",
                              [(1, None, 1)], 1),
                         [(1, None, 1), (2, None, 1), (2, None, 1), (3, None, 1)])

    def test_add(self):
        self.assertEqual(left("add from d until e", d=9, e=3, value="new"), [*ROWS, (9, 3, "new")])
        self.assertEqual(left("add from d until empty", d=1), [*ROWS, (1, None, 0)])
        self.assertEqual(left("add from d until d\nadd from d - 1 until e", [], 5), [(5, 5, 0), (4, None, 0)])

    def test_later_statements_see_what_was_added(self):
        self.assertEqual(left("add from d until empty\nset until = d where until is empty", [(1, 2, 1)], 5),
                         [(1, 2, 1), (5, 5, 0)])

    def test_a_missing_day_makes_an_until_empty(self):
        self.assertEqual(left("set until = e where first = d", d=1)[0], (1, None, "a"))
        self.assertEqual(left("set until = e + 5 where first = d", d=1)[0], (1, None, "a"))
        self.assertEqual(left("set until = until - 1 where first = d", d=8)[2], (8, None, "b"))
        self.assertEqual(left("copy until = e where first = d", d=1)[1], (1, None, "a"))
        self.assertEqual(left("add from d until e - 1", d=1)[3], (1, None, 0))

    def test_nothing_is_checked(self):
        self.assertEqual(left("set until = first - 9 where first = d\nadd from d until empty", d=5),
                         [(1, 4, "a"), (5, -4, 7), (8, None, "b"), (5, None, 0)])

    def test_a_handler_of_head_lines_alone_leaves_the_rows(self):
        self.assertEqual(left("read low = least first where first < d", d=5), ROWS)

    def test_days_of_sixty_digits(self):
        rows = [(-HUGE, HUGE, 1)]
        self.assertEqual(left("set until = d - 1 where until >= d\nadd from d until e", rows, HUGE, HUGE, "v"),
                         [(-HUGE, HUGE - 1, 1), (HUGE, HUGE, "v")])
        self.assertEqual(left("copy first = first - 1 where first <= d", rows, -HUGE),
                         [(-HUGE, HUGE, 1), (-HUGE - 1, HUGE, 1)])


class FailTest(unittest.TestCase):
    def line_of(self, lines, rows=ROWS, d=0, e=None):
        with self.assertRaises(NoDay) as caught:
            left(lines, rows, d, e)
        return caught.exception.number

    def test_the_line_of_a_missing_first_day_is_told(self):
        self.assertEqual(self.line_of("add from e until d"), 1)
        self.assertEqual(self.line_of("add from e + 1 until d"), 1)
        self.assertEqual(self.line_of("drop where first = d\nset first = e where first > d"), 2)
        self.assertEqual(self.line_of("copy first = until + 1 where until > d or empty", d=4), 1)
        self.assertEqual(self.line_of("flag up = first = d\nread low = least first where first < d\n"
                                      "drop where first = d\nadd from low until empty", d=1), 4)
        self.assertEqual(self.line_of("set until = e where first = d\nset first = until where first = d", d=1), 2)

    def test_no_row_that_is_hit_no_failure(self):
        self.assertEqual(left("set first = e where first > d", d=8), ROWS)
        self.assertEqual(left("set first = until where until is not empty")[0], (4, 4, "a"))
        self.assertEqual(left("copy first = e where first > d", rows=[]), [])

    def test_the_first_line_that_fails_is_told(self):
        self.assertEqual(self.line_of("drop where first = d\nadd from e until d\nset first = e where first > d"), 2)

    def test_the_call_changes_nothing(self):
        book = Book(*ROWS)
        with self.assertRaises(NoDay):
            Handler.read("drop where first >= d\nadd from e until d")(book, 0)
        self.assertEqual(list(book), ROWS)


class CallTest(unittest.TestCase):
    def test_the_example_of_the_document(self):
        handler = Handler.read("set until = d - 1 where until is empty\nadd from d until empty")
        self.assertEqual(handler(Book((1, 4, 1), (5, None, 2)), 8), [(1, 4, 1), (5, 7, 2), (8, None, 0)])

    def test_arguments_by_name_and_by_place(self):
        handler = Handler.read("add from d until e")
        book = Book()
        self.assertEqual(handler(book, 1), [(1, None, 0)])
        self.assertEqual(handler(book, 1, 2, "v"), [(1, 2, "v")])
        self.assertEqual(handler(book, value="v", e=2, d=1), [(1, 2, "v")])

    def test_the_list_is_new_and_the_book_stays(self):
        handler = Handler.read("flag up = first = d\ndrop where first = d if up")
        book = Book(*ROWS)
        rows = handler(book, 77)
        self.assertEqual(rows, ROWS)
        rows.append((99, 99, 99))
        self.assertEqual(list(book), ROWS)
        self.assertEqual(handler(book, 77), ROWS)
        handler(book, 1)
        self.assertEqual(list(book), ROWS)

    def test_the_rows_begin_in_ascending_order(self):
        self.assertEqual(left("copy first = d where first = d", ROWS[::-1], 5),
                         [(1, 4, "a"), (5, 5, 7), (5, 5, 7), (8, None, "b")])

    def test_other_ends(self):
        for one, other in [(LAST, NEXT), (NEXT, LAST)]:
            handler = Handler.read("add from e until d", one)
            with self.assertRaises(OtherEnds) as caught:
                handler(Book(ends=other), 1)
            self.assertEqual(caught.exception.ends, other)

    def test_call_objects(self):
        handler = Handler.read("add from d until e")
        call = Call(handler, 1)
        self.assertEqual((call.handler, call.d, call.e, call.value), (handler, 1, None, 0))
        self.assertIs(call.handler, handler)
        self.assertEqual(call(Book((0, 0, 1))), [(0, 0, 1), (1, None, 0)])
        self.assertEqual(Call(handler, 1, 2, "v")(Book()), [(1, 2, "v")])
        self.assertEqual(Call(handler, 1, value="v", e=3)(Book()), [(1, 3, "v")])
        with self.assertRaises(OtherEnds):
            call(Book(ends=NEXT))
        with self.assertRaises(NoDay) as caught:
            Call(Handler.read("drop where first = d\nadd from e until d"), 1)(Book())
        self.assertEqual(caught.exception.number, 2)


class ModelTest(unittest.TestCase):
    """Many calls leave what the model of naive leaves."""

    TEXTS = [
        "set until = d - 1 where until >= d or empty and first < d\ndrop where first >= d\nadd from d until empty",
        "read next = least first where first > d\nset until = d - 1 where first < d and until >= d or empty\n"
        "drop where first = d\nadd from d until next - 1",
        "copy first = e + 1 where first <= e and until > e or empty\n"
        "set until = d - 1 where first < d and until >= d or empty\ndrop where first >= d and first <= e\n"
        "add from d until e",
        "flag up = until = d\nread high = greatest until where until >= d or empty\n"
        "set first = until and until = first + 2 where until > first\ncopy until = high where first = high - 1 if up\n"
        "add from high until e unless up\ndrop where until < first or empty",
        "read one = greatest first where first < d\nread two = greatest until where until < one + 3\n"
        "set first = two where first > one and until is not empty\nadd from one + 1 until two",
    ]

    def test_many_calls(self):
        books = [[], [(2, 2, 1)], [(1, None, 1)], [(0, 1, 1), (2, 4, 2)], [(0, 0, 1), (3, 4, 2), (5, None, 3)],
                 [(1, 2, 1), (4, 4, 2), (6, 8, 1)]]
        for text, rows, ends in itertools.product(self.TEXTS, books, [LAST, NEXT]):
            handler = Handler.read(text, ends)
            book = Book.from_rows(rows).turned(ends)
            for d, e in itertools.product(range(-1, 10), [None, *range(-1, 10)]):
                expected = naive.run(text, list(book), d, e, "new")
                try:
                    got = handler(book, d, e, "new")
                except NoDay as error:
                    got = error.number
                self.assertEqual(got, expected, (text, rows, ends, d, e))


if __name__ == "__main__":
    unittest.main()
