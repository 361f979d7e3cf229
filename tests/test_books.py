"""Points 8 to 11: books."""

import itertools
import types
import unittest

from untilrows.books import Book, Shape
from untilrows.errors import Clash, EmptyRow, EmptyStretch
from untilrows.rows import Ends, Row
from untilrows.tables import Table

HUGE = 10 ** 60 - 1
LAST, NEXT = Ends.LAST_DAY, Ends.NEXT_DAY


def next_day_rows(*rows):
    """Return rows of LAST_DAY as they are written with NEXT_DAY."""
    return [(first, None if until is None else until + 1, value) for first, until, value in rows]


def days_of(book, days):
    return [book[day] for day in days]


class InterfaceTest(unittest.TestCase):
    def test_what_is_listed_is_defined_in_the_class_itself(self):
        for name in ["__iter__", "__len__", "__getitem__", "__setitem__", "__eq__", "narrowest", "bearer",
                     "table", "turned", "joined", "gaps", "fits", "of", "from_rows"]:
            with self.subTest(name):
                self.assertIn(name, vars(Book))
        self.assertEqual((Book.__module__, Shape.__module__), ("untilrows.books", "untilrows.books"))
        self.assertIsInstance(vars(Book)["of"], staticmethod)
        self.assertIsInstance(vars(Book)["from_rows"], staticmethod)
        self.assertIsInstance(vars(Book)["narrowest"], property)

    def test_the_shapes_are_strings(self):
        self.assertEqual((Shape.APART, Shape.SOLID, Shape.LASTING), ("apart", "solid", "lasting"))

    def test_the_example_of_the_document(self):
        book = Book((7, None, "b"), (1, 4, "a"))
        book[3, 8] = "c"
        self.assertEqual(list(book), [(1, 2, "a"), (3, 8, "c"), (9, None, "b")])

    def test_the_ends_are_the_last_day_unless_they_are_given(self):
        self.assertEqual(Book((1, 1, 1)).ends, LAST)
        self.assertEqual(Book.from_rows([(1, 1, 1)]).ends, LAST)
        self.assertEqual(Book.of(Table()).ends, LAST)
        self.assertEqual(Book((1, 2, 1), ends=NEXT).ends, NEXT)
        self.assertEqual(Book.from_rows([(1, 2, 1)], NEXT).ends, NEXT)
        self.assertEqual(Book.from_rows([(1, 2, 1)], ends=NEXT).ends, NEXT)
        self.assertEqual(Book.of(Table(), NEXT).ends, NEXT)
        self.assertEqual(Book.of(Table(), ends=NEXT).ends, NEXT)


class MakingTest(unittest.TestCase):
    """Each case is made by both roads."""

    ROADS = {
        "Book": lambda rows, ends: Book(*rows, ends=ends),
        "from_rows": lambda rows, ends: Book.from_rows(list(rows), ends),
    }

    def each_road(self):
        for name, road in self.ROADS.items():
            with self.subTest(name):
                yield road

    def empty_of(self, road, rows, ends=LAST):
        with self.assertRaises(EmptyRow) as caught:
            road(rows, ends)
        return caught.exception.first, caught.exception.end

    def clash_of(self, road, rows, ends=LAST):
        with self.assertRaises(Clash) as caught:
            road(rows, ends)
        return caught.exception.earlier, caught.exception.later

    def test_rows_may_be_given_in_any_order(self):
        rows = [(-4, -4, "x"), (1, 4, "a"), (5, 6, 7), (9, None, "a")]
        for road in self.each_road():
            for given in itertools.permutations(rows):
                self.assertEqual(list(road(given, LAST)), rows)
                self.assertEqual(list(road(next_day_rows(*given), NEXT)), next_day_rows(*rows))

    def test_a_book_without_rows(self):
        for road in self.each_road():
            book = road([], NEXT)
            self.assertEqual((list(book), len(book), book.ends), ([], 0, NEXT))
            self.assertEqual((book[0], book.bearer(0), list(book.gaps())), (None, None, []))
            self.assertEqual((book.table(), book.joined(), book.turned(LAST)), (Table(), book, Book()))

    def test_the_first_empty_row_of_the_arguments_is_told(self):
        for road in self.each_road():
            self.assertEqual(self.empty_of(road, [(5, 7, 1), (9, 8, 2), (1, 0, 3)]), (9, 8))
            self.assertEqual(self.empty_of(road, [(1, 0, 3), (9, 8, 2)]), (1, 0))
            self.assertEqual(self.empty_of(road, [(3, -9, 3)]), (3, -9))
            self.assertEqual(self.empty_of(road, [(3, 3, 3)], NEXT), (3, 3))
            self.assertEqual(list(road([(3, 3, 3)], LAST)), [(3, 3, 3)])
            self.assertEqual(list(road([(3, 4, 3)], NEXT)), [(3, 4, 3)])

    def test_an_empty_row_comes_ahead_of_a_clash(self):
        for road in self.each_road():
            self.assertEqual(self.empty_of(road, [(1, 5, 1), (2, 6, 2), (9, 8, 3)]), (9, 8))

    def test_the_first_two_neighbours_that_clash_are_told(self):
        for road in self.each_road():
            self.assertEqual(self.clash_of(road, [(8, 9, 3), (9, None, 4), (2, 6, 2), (1, 2, 1)]),
                             ((1, 2, 1), (2, 6, 2)))
            # (1, 9) bears days of both others, but its neighbour is the row from 3 on.
            self.assertEqual(self.clash_of(road, [(5, 6, 3), (1, 9, 1), (3, 3, 2)]), ((1, 9, 1), (3, 3, 2)))
            self.assertEqual(self.clash_of(road, [(3, None, 1), (1, None, 2)]), ((1, None, 2), (3, None, 1)))

    def test_rows_with_the_same_first_day_keep_the_order_of_the_arguments(self):
        for road in self.each_road():
            self.assertEqual(self.clash_of(road, [(1, 9, "z"), (1, 2, "a")]), ((1, 9, "z"), (1, 2, "a")))
            self.assertEqual(self.clash_of(road, [(1, 2, "a"), (1, 9, "z")]), ((1, 2, "a"), (1, 9, "z")))
            self.assertEqual(self.clash_of(road, [(1, 2, "b"), (0, 0, "y"), (1, 2, "a")]),
                             ((1, 2, "b"), (1, 2, "a")))

    def test_rows_that_touch_do_not_clash(self):
        for road in self.each_road():
            self.assertEqual(len(road([(1, 2, 1), (3, 4, 1)], LAST)), 2)
            self.assertEqual(len(road([(1, 3, 1), (3, 5, 1)], NEXT)), 2)
            self.assertEqual(self.clash_of(road, [(1, 3, 1), (3, 4, 1)]), ((1, 3, 1), (3, 4, 1)))
            self.assertEqual(self.clash_of(road, [(1, 4, 1), (3, 5, 1)], NEXT), ((1, 4, 1), (3, 5, 1)))

    def test_days_of_sixty_digits(self):
        for road in self.each_road():
            rows = [(-HUGE, -HUGE, 1), (-HUGE + 1, HUGE - 1, 2), (HUGE, HUGE, HUGE)]
            book = road(rows[::-1], LAST)
            self.assertEqual(list(book), rows)
            self.assertEqual(days_of(book, [-HUGE - 1, -HUGE, 0, HUGE - 1, HUGE, HUGE + 1]),
                             [None, 1, 2, 2, HUGE, None])
            self.assertEqual(self.empty_of(road, [(HUGE, HUGE - 1, 1)]), (HUGE, HUGE - 1))

    def test_from_rows_leaves_its_list_and_does_not_follow_it(self):
        rows = [(5, 6, 2), (1, 2, 1)]
        book = Book.from_rows(rows)
        self.assertEqual(rows, [(5, 6, 2), (1, 2, 1)])
        rows.append((9, 9, 3))
        self.assertEqual(len(book), 2)


class ReadingTest(unittest.TestCase):
    def test_the_value_of_a_day(self):
        book = Book((1, 4, "a"), (5, 5, 0), (8, None, "b"))
        self.assertEqual(days_of(book, range(0, 10)),
                         [None, "a", "a", "a", "a", 0, None, None, "b", "b"])
        book = Book((1, 4, "a"), (4, 5, 0), (8, None, "b"), ends=NEXT)
        self.assertEqual(days_of(book, range(0, 10)),
                         [None, "a", "a", "a", 0, None, None, None, "b", "b"])

    def test_the_bearer_of_a_day_is_a_new_row(self):
        for ends, until in [(LAST, 4), (NEXT, 5)]:
            book = Book((1, until, "a"), (8, None, "b"), ends=ends)
            self.assertEqual(book.bearer(4), Row(1, until, "a", ends))
            self.assertEqual(book.bearer(9), Row(8, None, "b", ends))
            self.assertIsNone(book.bearer(5))
            self.assertIsNone(book.bearer(0))
            self.assertIsNot(book.bearer(4), book.bearer(4))

    def test_the_bearer_may_be_closed_and_the_book_stays(self):
        book = Book((1, 4, "a"), (8, None, "b"))
        row = book.bearer(9)
        row.close(9)
        row.value = "c"
        self.assertEqual(row, Row(8, 9, "c"))
        self.assertEqual(list(book), [(1, 4, "a"), (8, None, "b")])
        self.assertEqual(book.bearer(9), Row(8, None, "b"))

    def test_every_day_of_many_rows_is_found(self):
        book = Book(*[(3 * k, 3 * k + 1, k) for k in range(2000)])
        self.assertEqual(len(book), 2000)
        for day in [0, 1, 2, 3, 2999, 3000, 3001, 3002, 5996, 5997, 5998, 5999]:
            self.assertEqual(book[day], None if day % 3 == 2 else day // 3)

    def test_books_are_equal_if_ends_and_rows_are(self):
        book = Book((5, None, 2), (1, 4, 1))
        self.assertTrue(book == Book((1, 4, 1), (5, None, 2)))
        self.assertFalse(book != Book((1, 4, 1), (5, None, 2)))
        for other in [Book((1, 4, 1)), Book((1, 4, 1), (5, 9, 2)), Book((1, 4, 1), (6, None, 2)),
                      Book((1, 4, 1), (5, None, 3)), Book((1, 4, 1), (5, None, 2), ends=NEXT),
                      Book((1, 5, 1), (5, None, 2), ends=NEXT)]:
            with self.subTest(list(other)):
                self.assertTrue(book != other)
                self.assertFalse(book == other)
        self.assertFalse(Book() == Book(ends=NEXT))
        self.assertFalse(Book() == [])

    def test_an_integer_and_its_digits_are_unlike(self):
        self.assertTrue(Book((1, 4, 1)) != Book((1, 4, "1")))
        self.assertEqual(len(Book((1, 2, 1), (3, 4, "1")).joined()), 2)
        self.assertEqual(len(Book((1, 2, 1), (3, 4, "1")).table()), 2)

    def test_equal_rows_are_not_joined_for_equality(self):
        self.assertTrue(Book((1, 2, 1), (3, 4, 1)) != Book((1, 4, 1)))

    def test_the_list_of_rows_is_new(self):
        book = Book((1, 4, 1))
        list(book).append((9, 9, 9))
        self.assertEqual(len(book), 1)


class ChangingTest(unittest.TestCase):
    def after(self, rows, at, value, ends=LAST):
        book = Book.from_rows(rows, ends)
        book[at] = value
        return list(book)

    def test_a_row_vanishes(self):
        rows = [(1, 4, 1), (5, 7, 2), (8, None, 3)]
        self.assertEqual(self.after(rows, (5, 7), 9), [(1, 4, 1), (5, 7, 9), (8, None, 3)])
        self.assertEqual(self.after(rows, (5, 7), None), [(1, 4, 1), (8, None, 3)])
        self.assertEqual(self.after(rows, (-9, None), None), [])
        self.assertEqual(self.after(rows, (-9, None), 0), [(-9, None, 0)])

    def test_a_row_becomes_shorter(self):
        rows = [(1, 4, 1), (5, 7, 2), (8, None, 3)]
        self.assertEqual(self.after(rows, (4, 5), 9), [(1, 3, 1), (4, 5, 9), (6, 7, 2), (8, None, 3)])
        self.assertEqual(self.after(rows, (9, None), 9), [(1, 4, 1), (5, 7, 2), (8, 8, 3), (9, None, 9)])
        self.assertEqual(self.after(rows, (8, 8), None), [(1, 4, 1), (5, 7, 2), (9, None, 3)])

    def test_a_row_becomes_two(self):
        self.assertEqual(self.after([(1, 9, 1)], (3, 4), 2), [(1, 2, 1), (3, 4, 2), (5, 9, 1)])
        self.assertEqual(self.after([(1, None, 1)], (3, 4), None), [(1, 2, 1), (5, None, 1)])
        self.assertEqual(self.after([(1, None, "a")], (3, 4), "a"), [(1, 2, "a"), (3, 4, "a"), (5, None, "a")])

    def test_one_day(self):
        self.assertEqual(self.after([(1, 9, 1)], 3, 2), [(1, 2, 1), (3, 3, 2), (4, 9, 1)])
        self.assertEqual(self.after([(1, 9, 1)], 1, None), [(2, 9, 1)])
        self.assertEqual(self.after([(3, 3, 1)], 3, None), [])
        self.assertEqual(self.after([], 0, "x"), [(0, 0, "x")])

    def test_with_until_as_the_next_day(self):
        self.assertEqual(self.after([(1, 10, 1)], (3, 4), 2, NEXT), [(1, 3, 1), (3, 5, 2), (5, 10, 1)])
        self.assertEqual(self.after([(1, None, 1)], (3, None), 2, NEXT), [(1, 3, 1), (3, None, 2)])
        self.assertEqual(self.after([(1, 10, 1)], 9, 2, NEXT), [(1, 9, 1), (9, 10, 2)])

    def test_nothing_is_joined(self):
        self.assertEqual(self.after([(1, 2, 1), (5, 6, 1)], (3, 4), 1), [(1, 2, 1), (3, 4, 1), (5, 6, 1)])
        self.assertEqual(self.after([(1, 2, 1), (3, 4, 1)], 9, 1), [(1, 2, 1), (3, 4, 1), (9, 9, 1)])

    def test_a_stretch_that_ends_before_it_begins(self):
        book = Book((1, 9, 1))
        for value in [5, None]:
            with self.assertRaises(EmptyStretch) as caught:
                book[4, 3] = value
            self.assertEqual((caught.exception.first, caught.exception.last), (4, 3))
        self.assertEqual(list(book), [(1, 9, 1)])

    def test_all_small_changes_do_what_a_table_does(self):
        rows = [(1, 2, 1), (3, 4, 1), (6, 6, "1"), (8, None, 0)]
        spans = [(first, last) for first in range(0, 11) for last in [*range(first, 11), None]]
        for span in spans:
            for value in [None, 0, 1]:
                for ends in [LAST, NEXT]:
                    book = Book.from_rows(rows).turned(ends)
                    table = book.table()
                    book[span] = value
                    table[span] = value
                    self.assertEqual(book.table(), table)
                    self.assertEqual(book, Book.from_rows(list(book), ends))
                    self.assertEqual([row for row in book.turned(LAST) if row == (span[0], span[1], value)],
                                     [] if value is None else [(span[0], span[1], value)])
                    untouched = [(first, until, held) for first, until, held in rows
                                 if (until is not None and until < span[0])
                                 or (span[1] is not None and first > span[1])]
                    kept = list(book.turned(LAST))
                    self.assertEqual([row for row in untouched if row not in kept], [])

    def test_days_of_sixty_digits(self):
        self.assertEqual(self.after([(-HUGE, HUGE, 1)], (0, HUGE - 1), 2),
                         [(-HUGE, -1, 1), (0, HUGE - 1, 2), (HUGE, HUGE, 1)])
        self.assertEqual(self.after([(-HUGE, None, 1)], -HUGE, 2), [(-HUGE, -HUGE, 2), (-HUGE + 1, None, 1)])


class OtherFormsTest(unittest.TestCase):
    def test_the_table_of_a_book(self):
        for ends in [LAST, NEXT]:
            book = Book((1, 2, 1), (3, 4, 1), (6, 6, "1"), (7, None, 0)).turned(ends)
            self.assertEqual(list(book.table()), [(1, 4, 1), (6, 6, "1"), (7, None, 0)])

    def test_the_book_does_not_follow_its_table(self):
        book = Book((1, 2, 1))
        table = book.table()
        table[1] = 5
        self.assertEqual(list(book), [(1, 2, 1)])
        book[2] = 7
        self.assertEqual(list(table), [(1, 1, 5), (2, 2, 1)])
        other = Book.of(table)
        table[1, 2] = None
        self.assertEqual(list(other), [(1, 1, 5), (2, 2, 1)])

    def test_a_book_of_a_table(self):
        table = Table()
        table[1, 4] = 1
        table[5, 5] = "a"
        table[7, None] = 1
        self.assertEqual(Book.of(table), Book((1, 4, 1), (5, 5, "a"), (7, None, 1)))
        self.assertEqual(Book.of(table, NEXT), Book((1, 5, 1), (5, 6, "a"), (7, None, 1), ends=NEXT))

    def test_a_turned_book(self):
        rows = [(1, 4, 1), (5, 5, 1), (-HUGE, -HUGE, 0), (7, None, "a")]
        self.assertEqual(Book(*rows).turned(NEXT), Book(*next_day_rows(*rows), ends=NEXT))
        self.assertEqual(Book(*next_day_rows(*rows), ends=NEXT).turned(LAST), Book(*rows))
        book = Book(*rows)
        other = book.turned(LAST)
        self.assertEqual(other, book)
        other[9] = None
        self.assertEqual(book, Book(*rows))

    def test_a_joined_book(self):
        rows = [(1, 2, 1), (3, 4, 1), (5, 5, 1), (7, 7, 1), (8, 8, 2), (9, 9, 1), (10, None, 1)]
        joined = [(1, 5, 1), (7, 7, 1), (8, 8, 2), (9, None, 1)]
        self.assertEqual(Book(*rows).joined(), Book(*joined))
        book = Book(*next_day_rows(*rows), ends=NEXT)
        self.assertEqual(book.joined(), Book(*next_day_rows(*joined), ends=NEXT))
        self.assertEqual(len(book), 7)
        self.assertEqual(Book(*joined).joined(), Book(*joined))
        self.assertIsNot(Book(*joined).joined(), Book(*joined))


class ShapeTest(unittest.TestCase):
    CASES = [
        ([], [], Shape.SOLID),
        ([(1, 2, 1)], [], Shape.SOLID),
        ([(1, None, 1)], [], Shape.LASTING),
        ([(1, 2, 1), (3, 4, 2)], [], Shape.SOLID),
        ([(1, 2, 1), (3, None, 1)], [], Shape.LASTING),
        ([(1, 2, 1), (4, 5, 1)], [(3, 3)], Shape.APART),
        ([(1, 2, 1), (4, None, 1)], [(3, 3)], Shape.APART),
        ([(1, 2, 1), (5, 5, 1), (6, 6, 1), (HUGE, None, 1)], [(3, 4), (7, HUGE - 1)], Shape.APART),
        ([(-HUGE, -HUGE, 1), (-1, 5, 1)], [(-HUGE + 1, -2)], Shape.APART),
    ]

    def test_gaps_shapes_and_the_narrowest_shape(self):
        fitting = {
            Shape.APART: [Shape.APART],
            Shape.SOLID: [Shape.APART, Shape.SOLID],
            Shape.LASTING: [Shape.APART, Shape.SOLID, Shape.LASTING],
        }
        for rows, gaps, narrowest in self.CASES:
            for ends in [LAST, NEXT]:
                book = Book(*rows).turned(ends)
                with self.subTest(rows=rows, ends=ends):
                    self.assertEqual(list(book.gaps()), gaps)
                    self.assertEqual(book.narrowest, narrowest)
                    for shape in [Shape.APART, Shape.SOLID, Shape.LASTING]:
                        self.assertIs(book.fits(shape), shape in fitting[narrowest])

    def test_gaps_is_a_generator(self):
        gaps = Book((1, 2, 1), (5, 5, 1), (7, 7, 1)).gaps()
        self.assertIsInstance(gaps, types.GeneratorType)
        self.assertEqual([next(gaps), next(gaps), next(gaps, None)], [(3, 4), (6, 6), None])

    def test_the_shape_follows_the_book(self):
        book = Book((1, None, 1))
        book[5] = None
        self.assertEqual((book.narrowest, list(book.gaps())), (Shape.APART, [(5, 5)]))
        book[5, None] = None
        self.assertEqual(book.narrowest, Shape.SOLID)


if __name__ == "__main__":
    unittest.main()
