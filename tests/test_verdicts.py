"""Points 27 and 28: whether a handler is right."""

import inspect
import unittest

import slow
from untilrows import verdicts
from untilrows.books import Book
from untilrows.errors import RowsError
from untilrows.faults import enough, fault_of
from untilrows.handlers import Handler, turned
from untilrows.operations import Operation, operation
from untilrows.rows import Ends
from untilrows.verdicts import Verdict, alike, judge, widest

LAST, NEXT = Ends.LAST_DAY, Ends.NEXT_DAY

# Right handlers that need what the head lines tell, each with its operation.
HEADED = [
    ("set", "flag some = until >= d or empty\nset until = d - 1 where first < d and until >= d or empty if some\n"
            "drop where first >= d\nadd from d until empty if some\nadd from d until empty unless some"),
    ("fill", "flag late = first > d\nread then = least first where first > d\n"
             "set until = d - 1 where first < d and until >= d or empty\ndrop where first = d\n"
             "add from d until then - 1 if late\nadd from d until empty unless late"),
    ("take", "read begin = greatest first where first <= d\ndrop where first = begin"),
    ("end", "flag late = first >= d\nset until = d - 1 where first < d and until >= d or empty\n"
            "drop where first >= d if late"),
    ("move", "read last = greatest until where until < d\nread begin = least first where first >= d\n"
             "set until = e - 1 where until = last\nset first = e where first = begin"),
    ("give", "read last = greatest until where until <= d - 1\n"
             "read stop = least until where until > last and until > d - 1 or empty\n"
             "drop where first <= d and until >= d or empty\nset until = stop where until = last"),
]

# Handlers that are right for one shape and for none that is wider, each with its operation.
NARROW = [
    ("give", "solid", "read begin = greatest first where first <= d\n"
                      "read stop = least until where until >= d or empty\ndrop where first = begin\n"
                      "set until = stop where until = begin - 1"),
    ("set", "lasting", "flag done = until is empty\nset until = d - 1 where first < d and until >= d or empty\n"
                       "drop where first >= d\nadd from d until empty if done"),
    ("end", "lasting", "read begin = greatest first where first < d\ndrop where first >= d\n"
                       "set until = d - 1 where first = begin"),
]


def wrong_call(handler, work, shape, count, width, most):
    """Return a wrong call on a small book of so many rows, or None."""
    for book in slow.some(slow.books(count, shape, handler.ends, width), most, count):
        for d, e in slow.calls(width, work.two_days):
            if work.allows(book, d, e) and fault_of(handler, work, book, d, e) is not None:
                return list(book), d, e
    return None


class VerdictCase(unittest.TestCase):
    def check_no(self, verdict, handler, work, shape):
        """Check all that a verdict of a wrong handler tells."""
        told = (str(handler), work.word, shape, list(verdict.book), verdict.d, verdict.e)
        self.assertIs(verdict.holds, False)
        self.assertIs(bool(verdict), False)
        self.assertIsInstance(verdict.book, Book)
        self.assertEqual(verdict.book.ends, handler.ends, told)
        self.assertTrue(verdict.book.fits(shape), told)
        self.assertEqual([value for _, _, value in verdict.book], list(range(1, verdict.count + 1)), told)
        self.assertEqual(len(verdict.book), verdict.count)
        self.assertLessEqual(verdict.count, enough(handler, work, shape), told)
        self.assertIs(type(verdict.d), int)
        self.assertEqual(verdict.e is not None, work.two_days, told)
        fault = fault_of(handler, work, verdict.book, verdict.d, verdict.e, 0)
        self.assertIsNotNone(fault, told)
        self.assertEqual(vars(verdict.fault), vars(fault), told)

    def check_yes(self, verdict):
        self.assertIs(verdict.holds, True)
        self.assertIs(bool(verdict), True)
        self.assertEqual([verdict.count, verdict.book, verdict.d, verdict.e, verdict.fault], [None] * 5)

    def check(self, text, word, shape, ends, width=5, most=40):
        """Compare the verdict with a slow walk over small books."""
        work = operation(word)
        handler = turned(Handler.read(text), ends)
        verdict = judge(handler, work, shape=shape)
        if verdict.holds:
            self.check_yes(verdict)
            counts = range(min(enough(handler, work, shape), 3) + 1)
        else:
            self.check_no(verdict, handler, work, shape)
            counts = range(verdict.count)
        for count in counts:
            found = wrong_call(handler, work, shape, count, width, most)
            self.assertIsNone(found, (text, word, shape, ends, verdict.count))
        return verdict


class InterfaceTest(unittest.TestCase):
    def test_what_is_listed_is_defined_where_it_is_listed(self):
        for found in [Verdict, judge, widest, alike]:
            self.assertEqual(found.__module__, "untilrows.verdicts")
            self.assertIs(getattr(verdicts, found.__name__), found)
        self.assertIn("__bool__", vars(Verdict))

    def test_arguments(self):
        told = inspect.signature(judge).parameters.values()
        self.assertEqual([(arg.name, arg.kind == arg.KEYWORD_ONLY) for arg in told],
                         [("handler", False), ("operation", False), ("shape", True)])
        handler, work = Handler.read(slow.RIGHT["give"]), operation("give")
        self.assertTrue(judge(operation=work, shape="solid", handler=handler))
        self.assertEqual(widest(operation=work, handler=handler), "apart")
        narrow = Handler.read(NARROW[0][2])
        self.assertFalse(judge(narrow, work))
        self.assertTrue(judge(narrow, work, shape="solid"))
        with self.assertRaises(TypeError):
            judge(handler, work, "solid")


class RightTest(VerdictCase):
    def test_all_eight_operations(self):
        for word in Operation.WORDS:
            for ends in slow.ENDS:
                for shape in slow.SHAPES:
                    self.assertTrue(self.check(slow.RIGHT[word], word, shape, ends).holds, (word, shape, ends))

    def test_reads_and_flags(self):
        for word, text in HEADED:
            for ends in slow.ENDS:
                for shape in slow.SHAPES:
                    self.assertTrue(self.check(text, word, shape, ends).holds, (word, shape, ends))

    def test_a_handler_of_another_operation(self):
        for word in Operation.WORDS:
            for other in Operation.WORDS:
                for shape in slow.SHAPES:
                    verdict = self.check(slow.RIGHT[other], word, shape, LAST, 4, 20)
                    self.assertEqual(verdict.holds, word == other, (word, other, shape))


class FaultyTest(VerdictCase):
    def walk(self, word, text, shapes, ends):
        answers = []
        for faulty in slow.faulty(text):
            try:
                Handler.read(faulty)
            except RowsError:
                continue
            for shape in shapes:
                answers.append(self.check(faulty, word, shape, ends, 5, 20).count)
        return answers

    def test_small_faults_for_all_books(self):
        for word in Operation.WORDS:
            found = self.walk(word, slow.RIGHT[word], ["apart"], LAST)
            self.assertGreater(len([count for count in found if count is not None]), 6, word)

    def test_small_faults_for_other_shapes_and_ends(self):
        for word in Operation.WORDS:
            self.walk(word, slow.RIGHT[word], ["solid", "lasting"], NEXT)

    def test_small_faults_with_reads_and_flags(self):
        found = []
        for word, text in HEADED:
            found.extend(self.walk(word, text, slow.SHAPES, LAST))
        for count in (None, 0, 1, 2, 3):
            self.assertIn(count, found)

    def test_small_faults_of_handlers_for_one_shape(self):
        for word, shape, text in NARROW:
            self.walk(word, text, [shape], LAST)


class WrongTest(VerdictCase):
    def fault_on(self, text, word, shape="apart", ends=LAST):
        verdict = self.check(text, word, shape, ends)
        self.assertFalse(verdict)
        return verdict

    def test_the_call_fails(self):
        verdict = self.fault_on("read then = least first where first > d\nadd from then until empty", "end")
        self.assertEqual((verdict.count, verdict.fault.kind, verdict.fault.line), (0, "fails", 2))
        verdict = self.fault_on("set first = until + 1 where first < d and until is empty", "clear")
        self.assertEqual((verdict.count, verdict.fault.kind), (1, "day"))

    def test_a_line_that_may_fail_on_an_open_row(self):
        text = slow.RIGHT["end"] + "\nset first = until + 1 where until is empty"
        self.assertTrue(self.check(text, "end", "lasting", LAST))
        text = "set first = until + 1 where until is empty\n" + slow.RIGHT["end"]
        for shape in slow.SHAPES:
            verdict = self.fault_on(text, "end", shape)
            self.assertEqual((verdict.count, verdict.fault.kind, verdict.fault.line), (1, "fails", 1))

    def test_an_empty_row(self):
        text = slow.RIGHT["set"].replace("drop where first >= d", "set until = first - 1 where first >= d")
        verdict = self.fault_on(text, "set")
        self.assertEqual((verdict.count, verdict.fault.kind), (1, "empty"))

    def test_a_wrong_day_in_the_empty_book(self):
        verdict = self.fault_on("add from d + 1 until empty", "set", "solid")
        self.assertEqual((verdict.count, list(verdict.book), verdict.fault.kind), (0, [], "day"))
        self.assertEqual((verdict.fault.day, verdict.fault.shown, verdict.fault.wanted), (verdict.d, [], 0))
        self.assertEqual(self.fault_on("add from d + 1 until empty", "set", "lasting").count, 1)

    def test_rows_that_are_only_wrong_beside_others(self):
        # A row of one day is dropped if there are a row well ahead of it and a row well behind it.
        text = ("read near = greatest until where until < d - 2\nread far = least first where first > d + 2\n"
                "drop where first > near + 2 and first < far - 3 and until < first + 1\n" + slow.RIGHT["take"])
        work = operation("take")
        self.assertEqual(enough(Handler.read(text), work, "apart"), 4)
        for ends in slow.ENDS:
            self.assertEqual(self.check(text, "take", "apart", ends, 9, 30).count, 4)
            # Without gaps one more row parts the two rows that do not touch.
            self.assertEqual(self.check(text, "take", "solid", ends, 9, 30).count, 5)
            self.assertEqual(self.check(text, "take", "lasting", ends, 9, 30).count, 5)

    def test_flags_of_two_rows(self):
        text = ("flag near = until < d - 2\nflag far = first > d + 2\n" + slow.RIGHT["set"] + " if near\n"
                "add from d until empty unless near\nset until = d + 7 where first = d if far")
        for shape in slow.SHAPES:
            self.assertEqual(self.check(text, "set", shape, LAST, 8, 30).count, 1)
        text = text.replace(" if far", " if near")
        verdict = self.fault_on(text, "set", "lasting")
        self.assertEqual(verdict.count, 2)

    def test_great_numbers(self):
        text = slow.RIGHT["set"] + "\ndrop where first > d + 1000000000 and until < d + 1000000000"
        self.assertTrue(self.check(text, "set", "apart", LAST, 4, 9))
        text = slow.RIGHT["end"] + "\ndrop where first < d - 1000000000 and until < first + 999999999"
        verdict = self.fault_on(text, "end", "apart", NEXT)
        self.assertEqual(verdict.count, 1)
        self.assertLess(list(verdict.book)[0][0], verdict.d - 1000000000)


class WidestTest(VerdictCase):
    def test_right_for_all_books(self):
        for word in Operation.WORDS:
            for ends in slow.ENDS:
                self.assertEqual(widest(turned(Handler.read(slow.RIGHT[word]), ends), operation(word)), "apart")

    def test_right_for_some_shapes(self):
        for word, shape, text in NARROW:
            for ends in slow.ENDS:
                handler = turned(Handler.read(text), ends)
                self.assertEqual(widest(handler, operation(word)), shape, (word, ends))
                for place, other in enumerate(slow.SHAPES):
                    self.assertEqual(judge(handler, operation(word), shape=other).holds,
                                     place >= slow.SHAPES.index(shape), (word, other))
                    self.check(text, word, other, ends)

    def test_right_for_none(self):
        self.assertIsNone(widest(Handler.read("drop where first >= d"), operation("set")))
        self.assertIsNone(widest(Handler.read("add from d until empty"), operation("set")))


if __name__ == "__main__":
    unittest.main()
