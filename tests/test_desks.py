"""Point 38: desks."""

import inspect
import random
import unittest

import slow
from untilrows import desks
from untilrows.books import Book
from untilrows.desks import Desk
from untilrows.errors import NoDay, Refused
from untilrows.handlers import Handler
from untilrows.rows import Ends

NEXT = Ends.NEXT_DAY
HUGE = 10 ** 60 - 1

HANDLERS = {
    "put": Handler.read(slow.RIGHT["set"]),
    "stop": Handler.read(slow.RIGHT["end"]),
    "fill": Handler.read("add from d until e"),
    "far": Handler.read(slow.RIGHT["set"], NEXT),
    "fails": Handler.read("drop where first < d\nset first = e where first >= d"),
    "hollow": Handler.read("set until = first - 1 where first = d\nadd from d until d"),
}


def desk(*rows):
    return Desk(Book(*rows), **HANDLERS)


class DeskTest(unittest.TestCase):
    def refused(self, found, calls, index, name, why):
        """Check that the run is refused so, and that the desk stays as it was."""
        before = list(found.kept), found.done
        with self.assertRaises(Refused) as caught:
            found.run(*calls)
        error = caught.exception
        self.assertEqual((error.index, error.name, error.why), (index, name, why))
        self.assertEqual((list(found.kept), found.done), before)

    def test_what_is_listed_is_defined_where_it_is_listed(self):
        self.assertEqual(Desk.__module__, "untilrows.desks")
        self.assertIs(desks.Desk, Desk)
        self.assertLessEqual({"run", "call", "undo", "names", "kept", "done"}, set(vars(Desk)))
        told = inspect.signature(Desk.call).parameters.values()
        self.assertEqual([(arg.name, arg.default) for arg in told][2:],
                         [("d", inspect.Parameter.empty), ("e", None), ("value", 0)])

    def test_a_run_of_several_calls(self):
        found = desk((1, None, "a"))
        self.assertIsNone(found.run(("put", 5, None, "b"), ("stop", 9, None, 0), ("fill", 11, 12, "c")))
        self.assertEqual(list(found.kept), [(1, 4, "a"), (5, 8, "b"), (11, 12, "c")])
        self.assertEqual(found.done, 3)
        self.assertIsNone(found.run())
        self.assertEqual((len(found.kept), found.done), (3, 3))

    def test_rows_in_any_order_become_the_book(self):
        found = desk((5, None, 1))
        found.run(("fill", 2, 4, 2), ("fill", -HUGE, 0, 3))
        self.assertEqual(list(found.kept), [(-HUGE, 0, 3), (2, 4, 2), (5, None, 1)])

    def test_one_call(self):
        found = desk((1, None, "a"))
        self.assertIsNone(found.call("put", 5))
        self.assertEqual(list(found.kept), [(1, 4, "a"), (5, None, 0)])
        found.call(value="z", e=0, d=-3, name="fill")
        self.assertEqual((list(found.kept)[0], found.done), ((-3, 0, "z"), 2))

    def test_the_reasons(self):
        found = desk((1, 3, "a"), (6, None, "b"))
        self.refused(found, [("gone", 1, None, 0)], 0, "gone", "unknown")
        self.refused(found, [("book", 1, None, 0)], 0, "book", "unknown")
        self.refused(found, [("self", 1, None, 0)], 0, "self", "unknown")
        self.refused(found, [("", 1, None, 0)], 0, "", "unknown")
        self.refused(found, [("far", 1, None, 0)], 0, "far", "ends")
        self.refused(found, [("fails", 2, None, 0)], 0, "fails", "fails")
        self.refused(found, [("hollow", 6, None, 0)], 0, "hollow", "empty")
        self.refused(found, [("hollow", 5, None, 0), ("hollow", 7, None, 0)], 1, "hollow", "clash")
        self.refused(found, [("fill", 3, 5, 0)], 0, "fill", "clash")
        self.refused(found, [("fill", 5, 4, 0)], 0, "fill", "empty")
        # An empty row on a day of another row is told as an empty row.
        self.refused(found, [("fill", 2, 1, 0)], 0, "fill", "empty")
        self.assertEqual(found.done, 0)

    def test_the_first_call_that_is_refused_counts(self):
        found = desk((1, 3, "a"))
        self.refused(found, [("put", 3, None, 1), ("fill", 1, 2, 1), ("gone", 1, None, 1)], 1, "fill", "clash")
        self.refused(found, [("fill", 4, 4, 1), ("stop", 9, None, 1), ("gone", 1, None, 1)], 2, "gone", "unknown")
        self.refused(found, [("fill", 4, 4, 1), ("fill", 4, 4, 1)], 1, "fill", "clash")
        # What the calls before it left counts: without the first one the second one would do.
        found.run(("fill", 4, 4, 1), ("stop", 2, None, 1), ("fill", 2, 9, 1))
        self.assertEqual(list(found.kept), [(1, 1, "a"), (2, 9, 1)])

    def test_ends_go_ahead_of_what_the_call_does(self):
        handlers = {"fails": Handler.read("add from e until empty", NEXT)}
        self.refused(Desk(Book((1, 2, 3)), **handlers), [("fails", 1, None, 0)], 0, "fails", "ends")
        found = Desk(Book((1, 2, 3), ends=NEXT), **handlers)
        self.refused(found, [("fails", 1, None, 0)], 0, "fails", "fails")
        found.call("fails", 1, 2)
        self.assertEqual(found.kept, Book((1, 2, 3), (2, None, 0), ends=NEXT))

    def test_a_refused_call(self):
        found = desk((1, 3, "a"))
        with self.assertRaises(Refused) as caught:
            found.call("gone", 1)
        error = caught.exception
        self.assertEqual((error.index, error.name, error.why), (0, "gone", "unknown"))
        self.assertNotIsInstance(error, NoDay)

    def test_undo(self):
        found = desk((1, None, "a"))
        self.assertIs(found.undo(), False)
        found.run(("put", 5, None, "b"), ("put", 9, None, "c"))
        found.run()
        found.call("stop", 20)
        self.refused(found, [("gone", 1, None, 0)], 0, "gone", "unknown")
        self.assertEqual(found.done, 3)
        self.assertIs(found.undo(), True)
        self.assertEqual((list(found.kept)[-1], found.done), ((9, None, "c"), 2))
        self.assertIs(found.undo(), True)
        self.assertEqual((len(found.kept), found.done), (3, 2))
        found.call("stop", 30)
        self.assertEqual((list(found.kept)[-1], found.done), ((9, 29, "c"), 3))
        self.assertIs(found.undo(), True)
        self.assertIs(found.undo(), True)
        self.assertEqual((list(found.kept), found.done), ([(1, None, "a")], 0))
        self.assertIs(found.undo(), False)
        self.assertEqual((list(found.kept), found.done), ([(1, None, "a")], 0))

    def test_compared_with_a_list_of_books(self):
        mixed = random.Random(6)
        for _ in range(40):
            found = desk((1, None, "a"))
            past = [[(1, None, "a")]]
            counts = [0]
            for _ in range(12):
                if mixed.random() < 0.3:
                    self.assertIs(found.undo(), len(past) > 1)
                    if len(past) > 1:
                        past.pop()
                        counts.pop()
                else:
                    calls = [(mixed.choice(["put", "stop", "fill"]), mixed.randint(0, 9), mixed.choice([None, 5]),
                              place) for place in range(mixed.randint(0, 2))]
                    book = Book.from_rows(past[-1])
                    try:
                        for name, d, e, value in calls:
                            book = Book.from_rows(HANDLERS[name](book, d, e, value))
                    except ValueError:
                        with self.assertRaises(Refused):
                            found.run(*calls)
                        continue
                    found.run(*calls)
                    past.append(list(book))
                    counts.append(counts[-1] + len(calls))
                self.assertEqual((list(found.kept), found.done), (past[-1], counts[-1]))

    def test_copies(self):
        book = Book((1, None, "a"))
        found = Desk(book, **HANDLERS)
        book[1, 5] = "b"
        self.assertEqual(list(found.kept), [(1, None, "a")])
        kept = found.kept
        kept[1, 9] = None
        self.assertEqual(list(found.kept), [(1, None, "a")])
        self.assertEqual(found.kept, found.kept)
        self.assertIsNot(found.kept, found.kept)
        found.call("put", 4)
        self.assertEqual((list(kept), list(book)), ([(10, None, "a")], [(1, 5, "b"), (6, None, "a")]))

    def test_names(self):
        found = desk((1, 2, 3))
        self.assertEqual(found.names(), ["fails", "far", "fill", "hollow", "put", "stop"])
        found.names().clear()
        self.assertEqual(len(found.names()), 6)
        self.assertEqual(Desk(Book()).names(), [])
        self.assertEqual(Desk(book=Book((1, 2, 3)), run=HANDLERS["put"], call=HANDLERS["put"]).names(), ["call", "run"])

    def test_the_handlers_are_copied(self):
        handlers = dict(HANDLERS)
        found = Desk(Book(), **handlers)
        handlers.clear()
        self.assertEqual(len(found.names()), 6)


if __name__ == "__main__":
    unittest.main()
