"""Points 2 and 5 to 7: plain tables."""

import itertools
import unittest

from untilrows.errors import EmptyStretch, Unordered
from untilrows.tables import Table

HUGE = 10 ** 60 - 1


def table_of(*gifts):
    """Make a table by gifts (first, last, value), one after another."""
    table = Table()
    for first, last, value in gifts:
        table[first, last] = value
    return table


class PlainDays:
    """A slow model of a table: a dict of the days near 0, far days standing for all."""

    FAR = range(-3, 12)

    def __init__(self):
        self.values = {day: None for day in self.FAR}

    def give(self, first, last, value):
        for day in self.FAR:
            if first <= day and (last is None or day <= last):
                self.values[day] = value

    def changes(self):
        return [(day, self.values[day]) for day in self.FAR[1:]
                if self.values[day] != self.values[day - 1]]

    def runs(self):
        changes = [*self.changes(), (None, None)]
        return [(day, None if stop is None else stop - 1, value)
                for (day, value), (stop, _) in zip(changes, changes[1:]) if value is not None]


class InterfaceTest(unittest.TestCase):
    def test_what_is_listed_is_defined_in_the_class_itself(self):
        for name in ["__getitem__", "__setitem__", "__iter__", "__len__", "__eq__",
                     "changes", "first_difference", "of_changes"]:
            with self.subTest(name):
                self.assertIn(name, vars(Table))
        self.assertEqual(Table.__module__, "untilrows.tables")
        self.assertIsInstance(vars(Table)["of_changes"], staticmethod)

    def test_the_example_of_the_document(self):
        table = Table()
        table[3, None] = 7
        table[5, 6] = 8
        self.assertEqual(list(table), [(3, 4, 7), (5, 6, 8), (7, None, 7)])


class GivingTest(unittest.TestCase):
    def test_a_new_table_has_no_values(self):
        table = Table()
        self.assertEqual([table[day] for day in (-HUGE, -1, 0, 1, HUGE)], [None] * 5)
        self.assertEqual(list(table), [])
        self.assertEqual(len(table), 0)

    def test_both_days_of_a_stretch_are_included(self):
        table = table_of((-1, 2, "a"))
        self.assertEqual([table[day] for day in range(-3, 5)], [None, None, "a", "a", "a", "a", None, None])

    def test_a_stretch_that_ends_on_its_first_day(self):
        table = table_of((4, 4, "a"))
        self.assertEqual(list(table), [(4, 4, "a")])
        self.assertEqual([table[3], table[4], table[5]], [None, "a", None])

    def test_a_stretch_without_end(self):
        table = table_of((4, None, "a"))
        self.assertEqual(list(table), [(4, None, "a")])
        self.assertEqual([table[-HUGE], table[3], table[4], table[5], table[HUGE]], [None, None, "a", "a", "a"])

    def test_a_single_day(self):
        table = Table()
        table[4] = "a"
        table[-7] = 1
        self.assertEqual(list(table), [(-7, -7, 1), (4, 4, "a")])

    def test_days_and_values_of_sixty_digits(self):
        table = table_of((-HUGE, HUGE, HUGE), (HUGE, None, -HUGE))
        self.assertEqual(list(table), [(-HUGE, HUGE - 1, HUGE), (HUGE, None, -HUGE)])
        self.assertEqual([table[-HUGE - 1], table[-HUGE], table[HUGE - 1], table[HUGE]], [None, HUGE, HUGE, -HUGE])
        table[HUGE] = "x" * 200
        self.assertEqual(table[HUGE], "x" * 200)
        self.assertEqual(table[HUGE + 1], -HUGE)

    def test_zero_and_the_empty_string_are_values(self):
        table = table_of((1, 2, 0), (3, None, ""))
        self.assertEqual(list(table), [(1, 2, 0), (3, None, "")])
        self.assertEqual([table[1], table[3]], [0, ""])

    def test_a_stretch_cuts_what_stands_there(self):
        table = table_of((1, 5, "a"), (8, None, "b"), (4, 9, "c"))
        self.assertEqual(list(table), [(1, 3, "a"), (4, 9, "c"), (10, None, "b")])

    def test_a_stretch_splits_what_stands_there(self):
        self.assertEqual(list(table_of((1, 9, "a"), (4, 5, "b"))), [(1, 3, "a"), (4, 5, "b"), (6, 9, "a")])
        self.assertEqual(list(table_of((1, None, "a"), (4, 4, "b"))), [(1, 3, "a"), (4, 4, "b"), (5, None, "a")])

    def test_a_stretch_covers_what_stands_there(self):
        table = table_of((1, 2, "a"), (4, 5, "b"), (7, 8, "c"), (10, None, "d"), (4, 8, "e"))
        self.assertEqual(list(table), [(1, 2, "a"), (4, 8, "e"), (10, None, "d")])
        table[0, None] = "f"
        self.assertEqual(list(table), [(0, None, "f")])

    def test_a_stretch_joins_what_it_touches(self):
        table = table_of((1, 2, "a"), (6, 7, "a"), (3, 5, "a"))
        self.assertEqual(list(table), [(1, 7, "a")])
        table = table_of((1, 2, "a"), (6, None, "a"), (3, 5, "a"))
        self.assertEqual(list(table), [(1, None, "a")])

    def test_values_are_taken_away_by_none(self):
        table = table_of((1, 9, "a"), (4, 5, None))
        self.assertEqual(list(table), [(1, 3, "a"), (6, 9, "a")])
        table[2] = None
        self.assertEqual(list(table), [(1, 1, "a"), (3, 3, "a"), (6, 9, "a")])
        table[3, None] = None
        self.assertEqual(list(table), [(1, 1, "a")])
        table[-HUGE, HUGE] = None
        self.assertEqual(list(table), [])
        self.assertEqual(list(table_of((1, None, None))), [])

    def test_an_integer_is_added_to_a_day(self):
        table = table_of((1, 3, 7))
        table[2] += 5
        self.assertEqual(list(table), [(1, 1, 7), (2, 2, 12), (3, 3, 7)])
        table[2] += -5
        self.assertEqual(list(table), [(1, 3, 7)])

    def test_an_empty_stretch_is_refused_and_changes_nothing(self):
        for first, last in ((5, 4), (0, -1), (HUGE, -HUGE), (3, 1)):
            for value in ("b", None):
                table = table_of((1, None, "a"), (4, 4, 1))
                with self.assertRaises(EmptyStretch) as caught:
                    table[first, last] = value
                self.assertEqual((caught.exception.first, caught.exception.last), (first, last))
                self.assertEqual(list(table), [(1, 3, "a"), (4, 4, 1), (5, None, "a")])


class RunsTest(unittest.TestCase):
    def test_an_integer_and_its_digits_are_two_values(self):
        table = table_of((1, 2, 1), (3, 4, "1"), (5, None, 1))
        self.assertEqual(list(table), [(1, 2, 1), (3, 4, "1"), (5, None, 1)])
        self.assertEqual(len(table), 3)

    def test_neighbours_of_one_value_are_one_run(self):
        for value in (1, "1"):
            self.assertEqual(list(table_of((1, 2, value), (3, 4, value))), [(1, 4, value)])
            self.assertEqual(list(table_of((3, None, value), (1, 2, value))), [(1, None, value)])

    def test_a_day_between_two_runs_keeps_them_apart(self):
        table = table_of((5, None, "a"), (1, 3, "a"))
        self.assertEqual(list(table), [(1, 3, "a"), (5, None, "a")])
        table[4] = "a"
        self.assertEqual(list(table), [(1, None, "a")])

    def test_runs_come_in_ascending_order(self):
        table = table_of((9, 9, 1), (-9, -8, 2), (2, 2, 3))
        self.assertEqual(list(table), [(-9, -8, 2), (2, 2, 3), (9, 9, 1)])

    def test_the_length_is_the_number_of_runs(self):
        self.assertEqual(len(table_of((1, 5, "a"))), 1)
        self.assertEqual(len(table_of((1, 5, "a"), (3, 3, None))), 2)
        self.assertEqual(len(table_of((1, None, "a"), (3, 3, 4))), 3)

    def test_a_list_of_runs_is_a_list_of_its_own(self):
        table = table_of((1, 5, "a"))
        runs = list(table)
        runs.append((7, 8, "b"))
        self.assertEqual(list(table), [(1, 5, "a")])
        table[7] = "c"
        self.assertEqual(runs, [(1, 5, "a"), (7, 8, "b")])


class ComparingTest(unittest.TestCase):
    def assert_differ(self, one, other, day):
        for left, right in ((one, other), (other, one)):
            self.assertEqual(left.first_difference(right), day)
            self.assertFalse(left == right)
            self.assertTrue(left != right)

    def test_equal_tables(self):
        one = table_of((1, None, "a"), (4, 5, 7))
        other = table_of((6, None, "a"), (4, 5, 7), (1, 3, "a"))
        self.assertTrue(one == other)
        self.assertFalse(one != other)
        self.assertIsNone(one.first_difference(other))
        self.assertTrue(Table() == Table())
        self.assertIsNone(Table().first_difference(Table()))

    def test_tables_that_differ_on_one_day(self):
        for day in (-3, 0, 4, 9, 30, HUGE):
            one = table_of((-3, 9, "a"), (20, None, 1))
            other = table_of((-3, 9, "a"), (20, None, 1))
            other[day] = "b"
            self.assert_differ(one, other, day)
            other[day] = None
            if one[day] is not None:
                self.assert_differ(one, other, day)

    def test_the_least_day_is_told(self):
        self.assert_differ(table_of((1, 5, "a"), (9, 9, "b")), table_of((1, 4, "a"), (9, 9, "c")), 5)
        self.assert_differ(table_of((5, 9, "a")), table_of((3, 9, "a")), 3)
        self.assert_differ(table_of((5, None, "a")), table_of((5, 8, "a")), 9)
        self.assert_differ(table_of((5, None, "a")), Table(), 5)

    def test_an_integer_differs_from_its_digits(self):
        self.assert_differ(table_of((1, 5, 1), (3, 3, 2)), table_of((1, 3, 1), (3, 3, 2), (4, 5, "1")), 4)

    def test_none_stands_where_no_value_stands(self):
        self.assert_differ(table_of((1, 5, 0)), Table(), 1)
        self.assert_differ(table_of((1, 5, "")), Table(), 1)

    def test_a_table_is_not_equal_to_its_runs(self):
        self.assertFalse(table_of((1, 5, "a")) == [(1, 5, "a")])
        self.assertTrue(table_of((1, 5, "a")) != [(1, 5, "a")])

    def test_comparing_changes_nothing(self):
        one, other = table_of((1, None, "a")), table_of((3, 4, "b"))
        one.first_difference(other)
        self.assertFalse(one == other)
        self.assertEqual(list(one), [(1, None, "a")])
        self.assertEqual(list(other), [(3, 4, "b")])


class ChangesTest(unittest.TestCase):
    def test_no_changes(self):
        self.assertEqual(Table().changes(), [])
        self.assertEqual(list(Table.of_changes([])), [])

    def test_a_run_with_an_end_and_one_without(self):
        self.assertEqual(table_of((3, 4, "a")).changes(), [(3, "a"), (5, None)])
        self.assertEqual(table_of((3, None, "a")).changes(), [(3, "a")])
        self.assertEqual(table_of((-1, -1, 0)).changes(), [(-1, 0), (0, None)])
        self.assertEqual(table_of((-5, -1, "a"), (1, 2, "a")).changes(), [(-5, "a"), (0, None), (1, "a"), (3, None)])

    def test_runs_that_touch_and_runs_with_days_between(self):
        table = table_of((1, 2, "a"), (3, 4, "b"), (6, 6, "b"), (7, None, "c"))
        self.assertEqual(table.changes(), [(1, "a"), (3, "b"), (5, None), (6, "b"), (7, "c")])

    def test_a_table_of_changes(self):
        table = Table.of_changes([(1, "a"), (3, "b"), (5, None), (6, "b"), (7, "c")])
        self.assertEqual(list(table), [(1, 2, "a"), (3, 4, "b"), (6, 6, "b"), (7, None, "c")])
        self.assertEqual(list(Table.of_changes([(-HUGE, 0), (HUGE, None)])), [(-HUGE, HUGE - 1, 0)])
        self.assertEqual(list(Table.of_changes([(0, "")])), [(0, None, "")])

    def test_neighbouring_entries_may_repeat_a_value(self):
        table = Table.of_changes([(0, None), (1, "a"), (3, "a"), (5, None), (7, None), (9, "a"), (10, "a")])
        self.assertEqual(list(table), [(1, 4, "a"), (9, None, "a")])
        self.assertEqual(table.changes(), [(1, "a"), (5, None), (9, "a")])
        self.assertEqual(list(Table.of_changes([(0, None), (1, None)])), [])

    def test_an_integer_and_its_digits_are_two_entries(self):
        changes = [(1, 1), (2, "1"), (3, 1), (4, None)]
        self.assertEqual(Table.of_changes(changes).changes(), changes)

    def test_unordered_entries_are_refused(self):
        for days, index in (([1, 1], 1), ([2, 1], 1), ([1, 2, 2], 2), ([1, 3, 2, 4, 1], 2), ([0, -1, -2], 1),
                            ([HUGE, -HUGE], 1), ([-HUGE, HUGE, HUGE], 2)):
            changes = [(day, "a") for day in days]
            with self.assertRaises(Unordered) as caught:
                Table.of_changes(changes)
            self.assertEqual(caught.exception.index, index)
            self.assertEqual(changes, [(day, "a") for day in days])

    def test_unordered_entries_without_values_are_refused(self):
        with self.assertRaises(Unordered) as caught:
            Table.of_changes([(1, None), (1, None)])
        self.assertEqual(caught.exception.index, 1)

    def test_a_returned_list_has_no_effect(self):
        table = table_of((3, 4, "a"))
        changes = table.changes()
        changes.clear()
        self.assertEqual(table.changes(), [(3, "a"), (5, None)])
        self.assertEqual(list(table), [(3, 4, "a")])

    def test_a_given_list_has_no_effect_and_stays(self):
        changes = [(3, "a"), (4, "a"), (5, None)]
        table = Table.of_changes(changes=changes)
        self.assertEqual(changes, [(3, "a"), (4, "a"), (5, None)])
        changes[0] = (0, "b")
        changes.pop()
        self.assertEqual(list(table), [(3, 4, "a")])
        table[3] = "c"
        self.assertEqual(changes, [(0, "b"), (4, "a")])

    def test_a_table_of_changes_can_be_changed(self):
        table = Table.of_changes([(3, "a")])
        other = Table.of_changes([(3, "a")])
        table[5, None] = "b"
        self.assertEqual(list(table), [(3, 4, "a"), (5, None, "b")])
        self.assertEqual(list(other), [(3, None, "a")])


class ModelTest(unittest.TestCase):
    """Every way to give values to three stretches, beside a dict of days."""

    STRETCHES = [(first, last) for first in range(4) for last in [*range(first, 5), None]]

    def assert_same(self, table, model):
        self.assertEqual(list(table), model.runs())
        self.assertEqual(len(table), len(model.runs()))
        self.assertEqual(table.changes(), model.changes())
        self.assertEqual({day: table[day] for day in model.FAR}, model.values)
        self.assertTrue(Table.of_changes(table.changes()) == table)

    def test_three_stretches(self):
        for stretches in itertools.product(self.STRETCHES, repeat=3):
            for values in ((1, "1", None), (1, 2, 1), (1, 1, 1), (1, None, 1)):
                table, model = Table(), PlainDays()
                for (first, last), value in zip(stretches, values):
                    table[first, last] = value
                    model.give(first, last, value)
                self.assert_same(table, model)

    def test_differences(self):
        pairs = []
        for (first, last), (begin, end) in itertools.product(self.STRETCHES, repeat=2):
            table, model = Table(), PlainDays()
            for start, stop, value in ((first, last, 1), (begin, end, "1")):
                table[start, stop] = value
                model.give(start, stop, value)
            pairs.append((table, model.values))
        for (one, days), (other, others) in itertools.product(pairs[::3], pairs):
            differing = [day for day in days if days[day] != others[day]]
            self.assertEqual(one.first_difference(other), differing[0] if differing else None)
            self.assertEqual(one == other, not differing)
            self.assertEqual(one != other, bool(differing))

    def test_many_runs(self):
        table = Table()
        for day in range(0, 8000, 2):
            table[day] = day
        self.assertEqual(len(table), 4000)
        for day in range(0, 8000, 2):
            self.assertEqual((table[day], table[day + 1]), (day, None))
        self.assertEqual(len(table.changes()), 8000)
        self.assertTrue(Table.of_changes(table.changes()) == table)
        table[-5, None] = "a"
        self.assertEqual(list(table), [(-5, None, "a")])


if __name__ == "__main__":
    unittest.main()
