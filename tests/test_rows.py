"""Points 2 to 4: rows and their two habits of ending."""

import unittest

from untilrows import rows
from untilrows.errors import EmptyRow
from untilrows.rows import Ends, Row

LAST, NEXT = "last day", "next day"
HUGE = 10 ** 60 - 1


def fields(row):
    return (row.first, row.until, row.value, row.ends)


class InterfaceTest(unittest.TestCase):
    def test_ends(self):
        self.assertEqual(Ends.LAST_DAY, LAST)
        self.assertEqual(Ends.NEXT_DAY, NEXT)

    def test_what_is_listed_is_defined_in_the_class_itself(self):
        for name in ["__init__", "until", "stop", "close", "turned",
                     "__add__", "__radd__", "__sub__", "__contains__", "__eq__"]:
            with self.subTest(name):
                self.assertIn(name, vars(Row))
        self.assertEqual((Row.__module__, Ends.__module__), ("untilrows.rows", "untilrows.rows"))
        self.assertIs(rows.Row, Row)

    def test_until_and_stop_are_properties(self):
        self.assertIsInstance(vars(Row)["until"], property)
        self.assertIsInstance(vars(Row)["stop"], property)
        self.assertIsNotNone(vars(Row)["until"].fset)

    def test_fields(self):
        self.assertEqual(fields(Row(3, 5, "a")), (3, 5, "a", LAST))
        self.assertEqual(fields(Row(3, None, 7, NEXT)), (3, None, 7, NEXT))
        self.assertEqual(fields(Row(first=-3, until=0, value="", ends=NEXT)), (-3, 0, "", NEXT))


class DaysTest(unittest.TestCase):
    def assert_bears(self, row, days, others):
        for day in days:
            self.assertIs(day in row, True, day)
        for day in others:
            self.assertIs(day in row, False, day)

    def test_a_row_that_tells_its_last_day(self):
        self.assert_bears(Row(-1, 1, "a", LAST), [-1, 0, 1], [-HUGE, -2, 2, HUGE])

    def test_a_row_that_tells_the_next_day(self):
        self.assert_bears(Row(-1, 1, "a", NEXT), [-1, 0], [-HUGE, -2, 1, 2, HUGE])

    def test_an_open_row(self):
        for ends in (LAST, NEXT):
            self.assert_bears(Row(-1, None, "a", ends), [-1, 0, 5, HUGE], [-2, -HUGE])

    def test_a_row_of_one_day(self):
        self.assert_bears(Row(5, 5, "a", LAST), [5], [4, 6])
        self.assert_bears(Row(5, 6, "a", NEXT), [5], [4, 6])

    def test_days_of_sixty_digits(self):
        self.assert_bears(Row(HUGE, HUGE, "a", LAST), [HUGE], [HUGE - 1, HUGE + 1, -HUGE])
        self.assert_bears(Row(-HUGE, HUGE, "a", NEXT), [-HUGE, 0, HUGE - 1], [-HUGE - 1, HUGE])

    def test_stop(self):
        self.assertEqual(Row(3, 5, "a", LAST).stop, 6)
        self.assertEqual(Row(3, 5, "a", NEXT).stop, 5)
        self.assertEqual(Row(-3, -1, "a", LAST).stop, 0)
        self.assertEqual(Row(0, HUGE, "a", LAST).stop, 10 ** 60)
        self.assertEqual(Row(-3, 0, "a", NEXT).stop, 0)
        self.assertIsNone(Row(3, None, "a", LAST).stop)
        self.assertIsNone(Row(3, None, "a", NEXT).stop)


class EmptyRowTest(unittest.TestCase):
    def assert_empty(self, call, first, end):
        with self.assertRaises(EmptyRow) as caught:
            call()
        self.assertEqual((caught.exception.first, caught.exception.end), (first, end))

    def test_a_row_of_no_day_is_not_made(self):
        self.assert_empty(lambda: Row(5, 4, "a"), 5, 4)
        self.assert_empty(lambda: Row(5, 4, "a", LAST), 5, 4)
        self.assert_empty(lambda: Row(5, 5, "a", NEXT), 5, 5)
        self.assert_empty(lambda: Row(5, 1, "a", NEXT), 5, 1)
        self.assert_empty(lambda: Row(0, -1, "a", LAST), 0, -1)
        self.assert_empty(lambda: Row(0, 0, "a", NEXT), 0, 0)
        self.assert_empty(lambda: Row(HUGE, HUGE - 1, "a", LAST), HUGE, HUGE - 1)
        self.assert_empty(lambda: Row(HUGE, -HUGE, "a", NEXT), HUGE, -HUGE)

    def test_until_can_be_assigned(self):
        for ends, least in ((LAST, 3), (NEXT, 4)):
            row = Row(3, 5, "a", ends)
            for until in (least, 9, None, HUGE, least):
                row.until = until
                self.assertEqual(fields(row), (3, until, "a", ends))

    def test_an_assigned_until_moves_the_stop_and_the_days(self):
        row = Row(3, 5, "a")
        row.until = 7
        self.assertEqual(row.stop, 8)
        self.assertTrue(7 in row)
        row.until = None
        self.assertIsNone(row.stop)
        self.assertTrue(HUGE in row)
        row.until = 3
        self.assertEqual(row.stop, 4)
        self.assertFalse(4 in row)

    def test_a_refused_until_leaves_the_row_as_it_was(self):
        for ends, until, refused in ((LAST, 5, 2), (NEXT, 5, 3), (LAST, None, -HUGE), (NEXT, None, 3)):
            row = Row(3, until, "a", ends)
            self.assert_empty(lambda: setattr(row, "until", refused), 3, refused)
            self.assertEqual(fields(row), (3, until, "a", ends))
            self.assert_empty(lambda: row.close(refused), 3, refused)
            self.assertEqual(fields(row), (3, until, "a", ends))

    def test_close(self):
        for ends, least in ((LAST, -3), (NEXT, -2)):
            row = Row(-3, 5, "a", ends)
            for until in (least, 9, None, least):
                self.assertIsNone(row.close(until))
                self.assertEqual(fields(row), (-3, until, "a", ends))
        row = Row(-3, 5, "a")
        row.close(until=6)
        self.assertEqual(row.until, 6)


class OperatorsTest(unittest.TestCase):
    def test_a_row_later_or_earlier(self):
        for ends in (LAST, NEXT):
            row = Row(3, 5, "a", ends)
            for n in (0, 1, -4, HUGE, -HUGE):
                for moved in (row + n, n + row):
                    self.assertEqual(fields(moved), (3 + n, 5 + n, "a", ends))
                    self.assertIsNot(moved, row)
            self.assertEqual(fields(row), (3, 5, "a", ends))

    def test_an_open_row_stays_open(self):
        for ends in (LAST, NEXT):
            row = Row(3, None, 7, ends)
            self.assertEqual(fields(row + 10), (13, None, 7, ends))
            self.assertEqual(fields(-10 + row), (-7, None, 7, ends))

    def test_a_moved_row_is_a_row_of_its_own(self):
        row = Row(3, 5, "a")
        moved = row + 0
        moved.close(9)
        self.assertEqual(row.until, 5)
        row.close(4)
        self.assertEqual(moved.until, 9)

    def test_the_distance_of_two_rows(self):
        self.assertEqual(Row(3, 5, "a") - Row(-1, None, "b", NEXT), 4)
        self.assertEqual(Row(-1, None, "b", NEXT) - Row(3, 5, "a"), -4)
        self.assertEqual(Row(3, 5, "a") - Row(3, 9, "b"), 0)
        self.assertEqual(Row(HUGE, None, 1) - Row(-HUGE, 0, 1), 2 * HUGE)

    def test_equal_rows(self):
        self.assertTrue(Row(3, 5, "a") == Row(3, 5, "a", LAST))
        self.assertTrue(Row(3, None, 7, NEXT) == Row(3, None, 7, NEXT))
        self.assertFalse(Row(3, 5, "a") != Row(3, 5, "a"))

    def test_rows_that_differ_in_one_field(self):
        row = Row(3, 5, 1)
        for other in (Row(2, 5, 1), Row(3, 6, 1), Row(3, None, 1), Row(3, 5, 2), Row(3, 5, "1"), Row(3, 5, 1, NEXT)):
            self.assertFalse(row == other)
            self.assertTrue(row != other)
        self.assertFalse(Row(3, 5, 1, LAST) == Row(3, 6, 1, NEXT))

    def test_a_row_is_not_equal_to_its_fields(self):
        self.assertFalse(Row(3, 5, 1) == (3, 5, 1))
        self.assertFalse(Row(3, 5, 1) == None)  # noqa: E711

    def test_an_assigned_until_counts(self):
        row = Row(3, 5, "a")
        row.until = 6
        self.assertFalse(row == Row(3, 5, "a"))
        self.assertTrue(row == Row(3, 6, "a"))


class TurnedTest(unittest.TestCase):
    def test_the_same_days_with_other_ends(self):
        self.assertEqual(fields(Row(3, 5, "a", LAST).turned(NEXT)), (3, 6, "a", NEXT))
        self.assertEqual(fields(Row(3, 6, "a", NEXT).turned(LAST)), (3, 5, "a", LAST))
        self.assertEqual(fields(Row(5, 5, "a", LAST).turned(NEXT)), (5, 6, "a", NEXT))
        self.assertEqual(fields(Row(5, 6, "a", NEXT).turned(LAST)), (5, 5, "a", LAST))
        self.assertEqual(fields(Row(-HUGE, -1, 7, LAST).turned(NEXT)), (-HUGE, 0, 7, NEXT))
        self.assertEqual(fields(Row(-HUGE, 0, 7, NEXT).turned(LAST)), (-HUGE, -1, 7, LAST))

    def test_an_open_row_stays_open(self):
        self.assertEqual(fields(Row(3, None, 7, LAST).turned(NEXT)), (3, None, 7, NEXT))
        self.assertEqual(fields(Row(3, None, 7, NEXT).turned(LAST)), (3, None, 7, LAST))

    def test_the_same_ends_give_an_equal_new_row(self):
        for ends in (LAST, NEXT):
            row = Row(3, 5, "a", ends)
            turned = row.turned(ends=ends)
            self.assertTrue(turned == row)
            turned.close(None)
            self.assertEqual(fields(row), (3, 5, "a", ends))

    def test_the_row_itself_stays(self):
        row = Row(3, 5, "a", LAST)
        row.turned(NEXT)
        self.assertEqual(fields(row), (3, 5, "a", LAST))


if __name__ == "__main__":
    unittest.main()
