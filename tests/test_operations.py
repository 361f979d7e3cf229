"""Points 19 and 20: plain operations."""

import itertools
import unittest

from untilrows.books import Book
from untilrows.errors import NotAllowed, Unknown
from untilrows.operations import Operation, operation
from untilrows.rows import Ends
from untilrows.tables import Table

HUGE = 10 ** 60 - 1
LAST, NEXT = Ends.LAST_DAY, Ends.NEXT_DAY
ROWS = [(1, 4, 1), (5, 7, 2), (10, 11, 3), (12, None, 1)]
CLOSED = [(1, 4, 1), (5, 7, 2), (10, 11, 3)]
FAR = 99
DAYS = [*range(-3, 20), FAR]


def model(word, rows, d, e, value):
    """Return a dict from DAYS to what is due there, or None if the call is not allowed."""
    before = {day: None for day in DAYS}
    for first, until, held in rows:
        before.update({day: held for day in DAYS if first <= day and (until is None or day <= until)})
    after = dict(before)

    def give(days, worth):
        after.update({day: worth for day in days})

    bearer = [row for row in rows if row[0] <= d and (row[1] is None or d <= row[1])]
    if (e is None) == (word in ("between", "clear", "move")):
        return None
    if word in ("set", "end"):
        give([day for day in DAYS if day >= d], value if word == "set" else None)
    elif word == "fill":
        later = min([row[0] for row in rows if row[0] > d], default=FAR + 1)
        give([day for day in DAYS if d <= day < later], value)
    elif word in ("between", "clear"):
        if e < d:
            return None
        give([day for day in DAYS if d <= day <= e], value if word == "between" else None)
    elif word == "move":
        earlier, later = [row for row in rows if row[1] == d - 1], [row for row in rows if row[0] == d]
        if not earlier or not later:
            return None
        (begin, _, old), (_, end, new) = earlier[0], later[0]
        if e <= begin or (end is not None and e > end):
            return None
        give([day for day in DAYS if e <= day < d], new)
        give([day for day in DAYS if d <= day < e], old)
    else:
        if not bearer:
            return None
        first, until, _ = bearer[0]
        smaller = [row for row in rows if row[0] < first]
        end = FAR if until is None else until
        if word == "give" and smaller:
            give([day for day in DAYS if smaller[-1][1] < day <= end], smaller[-1][2])
        else:
            give([day for day in DAYS if first <= day <= end], None)
    return after


def due(word, rows, d, e=None, value=0, ends=LAST):
    return list(operation(word).due(Book(*rows).turned(ends), d, e, value))


class InterfaceTest(unittest.TestCase):
    FACTS = {"set": (False, 0), "end": (False, 0), "fill": (False, 1), "between": (True, 0), "clear": (True, 0),
             "take": (False, 1), "give": (False, 2), "move": (True, 2)}

    def test_what_is_listed_is_defined(self):
        for name in ["WORDS", "allows", "due"]:
            self.assertIn(name, vars(Operation))
        self.assertEqual((Operation.__module__, operation.__module__),
                         ("untilrows.operations", "untilrows.operations"))

    def test_the_eight_words(self):
        self.assertEqual(Operation.WORDS, tuple(self.FACTS))
        self.assertIsInstance(Operation.WORDS, tuple)

    def test_the_attributes(self):
        for word, (two_days, named) in self.FACTS.items():
            found = operation(word)
            self.assertIsInstance(found, Operation)
            self.assertEqual((found.word, found.two_days, found.named), (word, two_days, named))
            self.assertIs(found.two_days, two_days)
            self.assertEqual(found.WORDS, Operation.WORDS)

    def test_other_words_are_unknown(self):
        for word in ["", "Set", "set ", "moves", "drop", "fill\n", "add", "a" * 1000]:
            with self.assertRaises(Unknown) as caught:
                operation(word)
            self.assertEqual(caught.exception.word, word)


class AllowedTest(unittest.TestCase):
    def allowed(self, word, d, e=None, rows=ROWS):
        for ends in [LAST, NEXT]:
            book = Book(*rows).turned(ends)
            found = operation(word).allows(book, d, e)
            self.assertIsInstance(found, bool)
            if not found:
                with self.assertRaises(NotAllowed) as caught:
                    operation(word).due(book, d, e, 5)
                self.assertEqual(caught.exception.word, word)
            self.assertEqual(list(book.turned(LAST)), rows)
        return found

    def test_one_day_or_two(self):
        for word in ["set", "end", "fill", "take", "give"]:
            self.assertTrue(self.allowed(word, 3), word)
            self.assertFalse(self.allowed(word, 3, 3), word)
            self.assertFalse(self.allowed(word, 3, 4), word)
        for word, d in [("between", 3), ("clear", 3), ("move", 5)]:
            self.assertTrue(self.allowed(word, d, 6), word)
            self.assertFalse(self.allowed(word, d), word)

    def test_without_a_second_day(self):
        self.assertTrue(operation("set").allows(Book(), 3))
        self.assertFalse(operation("clear").allows(Book(), 3))

    def test_every_call(self):
        for word in ["set", "end", "fill"]:
            for d in [-HUGE, 0, 1, 8, HUGE]:
                self.assertTrue(self.allowed(word, d))
                self.assertTrue(self.allowed(word, d, rows=[]))

    def test_the_second_day_is_not_ahead_of_the_first(self):
        for word in ["between", "clear"]:
            self.assertTrue(self.allowed(word, 3, 3))
            self.assertTrue(self.allowed(word, -HUGE, HUGE))
            self.assertFalse(self.allowed(word, 3, 2))

    def test_a_row_bears_the_day(self):
        for word in ["take", "give"]:
            self.assertEqual([d for d in range(-1, 14) if self.allowed(word, d)], [1, 2, 3, 4, 5, 6, 7, 10, 11, 12, 13])
            self.assertFalse(self.allowed(word, 3, rows=[]))

    def test_the_border_of_two_rows(self):
        # Between the rows (1, 4) and (5, 7) the border lies on day 5, between (10, 11) and the last one on 12.
        self.assertEqual([(d, e) for d in range(-1, 17) for e in range(-1, 17) if self.allowed("move", d, e)],
                         [(5, e) for e in range(2, 8)] + [(12, e) for e in range(11, 17)])
        self.assertFalse(self.allowed("move", 10, 9))
        self.assertFalse(self.allowed("move", 1, 2, [(1, 4, 1)]))
        self.assertFalse(self.allowed("move", 5, 4, [(1, 4, 1)]))
        self.assertTrue(self.allowed("move", 0, HUGE, [(-HUGE, -1, 1), (0, None, 2)]))
        self.assertFalse(self.allowed("move", 0, -HUGE, [(-HUGE, -1, 1), (0, None, 2)]))
        self.assertTrue(self.allowed("move", 0, -HUGE + 1, [(-HUGE, -1, 1), (0, None, 2)]))


class DueTest(unittest.TestCase):
    def test_set_and_end(self):
        self.assertEqual(due("set", ROWS, 6, value=9), [(1, 4, 1), (5, 5, 2), (6, None, 9)])
        self.assertEqual(due("set", ROWS, -2, value="x"), [(-2, None, "x")])
        self.assertEqual(due("set", [], 6), [(6, None, 0)])
        self.assertEqual(due("end", ROWS, 6), [(1, 4, 1), (5, 5, 2)])
        self.assertEqual(due("end", ROWS, 1, value=8), [])

    def test_fill(self):
        self.assertEqual(due("fill", ROWS, 6, value=9)[1:4], [(5, 5, 2), (6, 9, 9), (10, 11, 3)])
        self.assertEqual(due("fill", ROWS, 5, value=9)[1], (5, 9, 9))
        self.assertEqual(due("fill", ROWS, 4, value=9)[:3], [(1, 3, 1), (4, 4, 9), (5, 7, 2)])
        self.assertEqual(due("fill", ROWS, -1, value=9)[:2], [(-1, 0, 9), (1, 4, 1)])
        self.assertEqual(due("fill", ROWS, 12, value=9)[3:], [(12, None, 9)])
        self.assertEqual(due("fill", CLOSED, 30, value=9)[3:], [(30, None, 9)])
        self.assertEqual(due("fill", [], -HUGE, value=9), [(-HUGE, None, 9)])

    def test_between_and_clear(self):
        self.assertEqual(due("between", ROWS, 4, 10, 9), [(1, 3, 1), (4, 10, 9), (11, 11, 3), (12, None, 1)])
        self.assertEqual(due("clear", ROWS, 4, 10, 9), [(1, 3, 1), (11, 11, 3), (12, None, 1)])
        self.assertEqual(due("clear", ROWS, 20, 20), [*ROWS[:3], (12, 19, 1), (21, None, 1)])

    def test_take(self):
        self.assertEqual(due("take", ROWS, 5), [ROWS[0], *ROWS[2:]])
        self.assertEqual(due("take", ROWS, 7, value=8), [ROWS[0], *ROWS[2:]])
        self.assertEqual(due("take", ROWS, 50), ROWS[:3])

    def test_take_takes_one_row_alone_even_if_its_neighbour_has_the_same_value(self):
        self.assertEqual(due("take", [(1, 2, 5), (3, 4, 5)], 3), [(1, 2, 5)])

    def test_give(self):
        self.assertEqual(due("give", ROWS, 6), [(1, 7, 1), *ROWS[2:]])
        self.assertEqual(due("give", ROWS, 10), [(1, 4, 1), (5, 11, 2), (12, None, 1)])
        self.assertEqual(due("give", ROWS, 12), [(1, 4, 1), (5, 7, 2), (10, None, 3)])
        self.assertEqual(due("give", ROWS, 2), ROWS[1:])
        self.assertEqual(due("give", [(1, None, 5)], 2), [])

    def test_move(self):
        self.assertEqual(due("move", ROWS, 5, 3), [(1, 2, 1), (3, 7, 2), *ROWS[2:]])
        self.assertEqual(due("move", ROWS, 5, 2), [(1, 1, 1), (2, 7, 2), *ROWS[2:]])
        self.assertEqual(due("move", ROWS, 5, 7), [(1, 6, 1), (7, 7, 2), *ROWS[2:]])
        self.assertEqual(due("move", ROWS, 5, 5), ROWS)
        self.assertEqual(due("move", ROWS, 12, 40), [*ROWS[:2], (10, 39, 3), (40, None, 1)])

    def test_equal_values_are_one_run(self):
        self.assertEqual(due("set", [(1, 4, 9)], 3, value=9), [(1, None, 9)])
        self.assertEqual(due("set", [(1, 4, "9")], 3, value=9), [(1, 2, "9"), (3, None, 9)])

    def test_the_default_value_is_0(self):
        self.assertEqual(list(operation("set").due(Book(), 3)), [(3, None, 0)])
        self.assertEqual(list(operation("between").due(Book(), 3, e=4, value="v")), [(3, 4, "v")])

    def test_the_table_is_new(self):
        book = Book((1, 4, 1))
        table = operation("move").due(Book((1, 4, 1), (5, 6, 2)), 5, 5)
        self.assertIsInstance(table, Table)
        table = operation("take").due(book, 1)
        table[1, None] = 7
        self.assertEqual(list(book), [(1, 4, 1)])
        self.assertEqual(due("end", [(1, 4, 1)], 9), [(1, 4, 1)])

    def test_all_small_calls(self):
        books = [[], [(2, 4, 1)], [(2, None, 1)], [(0, 0, 1), (1, 3, 2), (4, None, 1)], [(0, 2, 1), (5, 6, 1), (7, 7, "1")],
                 [(0, 3, 1), (4, 4, 1), (6, 7, 2), (8, None, 3)]]
        for rows, word, ends in itertools.product(books, Operation.WORDS, [LAST, NEXT]):
            book, asked = Book(*rows).turned(ends), operation(word)
            for d, e in itertools.product(range(-2, 12), [None, *range(-2, 12)]):
                for value in [0, 1]:
                    wanted = model(word, rows, d, e, value)
                    self.assertEqual(asked.allows(book, d, e), wanted is not None)
                    if wanted is not None:
                        table = asked.due(book, d, e, value)
                        self.assertEqual({day: table[day] for day in DAYS}, wanted, (rows, word, d, e, value))

    def test_days_of_sixty_digits(self):
        rows = [(-HUGE, -HUGE, 1), (-HUGE + 1, 0, 2), (HUGE, None, 3)]
        self.assertEqual(due("give", rows, -HUGE + 1), [(-HUGE, 0, 1), (HUGE, None, 3)])
        self.assertEqual(due("give", rows, HUGE), [(-HUGE, -HUGE, 1), (-HUGE + 1, None, 2)])
        self.assertEqual(due("fill", rows, 5, value=4)[2:], [(5, HUGE - 1, 4), (HUGE, None, 3)])
        self.assertEqual(due("move", rows, -HUGE + 1, 0), [(-HUGE, -1, 1), (0, 0, 2), (HUGE, None, 3)])
        self.assertEqual(due("between", rows, -HUGE, HUGE, HUGE), [(-HUGE, HUGE, HUGE), (HUGE + 1, None, 3)])


if __name__ == "__main__":
    unittest.main()
