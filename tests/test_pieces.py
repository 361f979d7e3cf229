"""Points 25 and 26: scenes and pieces."""

import functools
import inspect
import random
import unittest

import naive
import slow
from untilrows import pieces as module
from untilrows.books import Book
from untilrows.errors import NoScene, TooMany
from untilrows.handlers import Handler, turned
from untilrows.pieces import Piece, pieces
from untilrows.rows import Ends

HUGE = 10 ** 59
LAST, NEXT = Ends.LAST_DAY, Ends.NEXT_DAY

TEXTS = [
    *slow.RIGHT.values(),
    "copy first = d where first < d and until > e or empty\nset until = d - 1 where until is empty",
    "read low = greatest until where until < d or empty\nread high = least first where first > low\n"
    "set until = high - 1 where until = low\nset first = low + 2 where first = high\nadd from high until low",
    "flag late = first > d + 1\nflag done = until is empty\ndrop where first >= d if late\n"
    "set until = empty where until >= d unless late\nadd from d until empty unless done\n"
    "copy first = first + 3 where until is not empty if done",
    "read begin = least first where first > d\n"
    "set first = begin where first > begin + 1 and first <= d + 6 and until > e",
    "set first = until + 1 where first < d\nset first = e where until = d",
    "set first = until - 1 and until = first + 1 where until <= first + 1\ndrop where until < first",
    "drop where first = d and until = d\nset until = until + 2 where until > first + 2 or empty",
    "read then = greatest first where first >= d and first <= d + 4 and first = e\nadd from then until then",
]


def points_of(book, d, e):
    """Return the days of the points of the scene."""
    days = {"d": d}
    if e is not None:
        days["e"] = e
    for number, (first, until, _) in enumerate(book, start=1):
        days[f"first {number}"] = first
        if until is not None:
            days[f"until {number}"] = until
    return days


def day_of(told, days):
    return None if told is None else days[told[0]] + told[1]


@functools.lru_cache(maxsize=None)
def scenes(count, shape, ends, width, two_days):
    """Return tuples (book, d, e, whether the last row is open)."""
    return [(book, d, e, count > 0 and list(book)[-1][1] is None)
            for book in slow.books(count, shape, ends, width) for d, e in slow.calls(width, two_days)]


class InterfaceTest(unittest.TestCase):
    def test_what_is_listed_is_defined_where_it_is_listed(self):
        for found in [Piece, pieces]:
            self.assertEqual(found.__module__, "untilrows.pieces")
            self.assertIs(getattr(module, found.__name__), found)
        self.assertIn("admits", vars(Piece))

    def test_arguments(self):
        told = inspect.signature(pieces).parameters.values()
        self.assertEqual([(arg.name, arg.kind == arg.KEYWORD_ONLY) for arg in told],
                         [("handler", False), ("count", False), ("shape", True), ("open_last", True),
                          ("two_days", True)])
        self.assertEqual([arg.default for arg in told][2:], ["apart", False, False])
        handler = Handler.read(slow.RIGHT["set"])
        self.assertEqual(len(pieces(two_days=False, open_last=True, count=1, shape="solid", handler=handler)),
                         len(pieces(handler, 1, open_last=True)))
        with self.assertRaises(TypeError):
            pieces(handler, 1, "apart")


class SceneTest(unittest.TestCase):
    """Each scene is in one piece, which tells what a slow model of the handler leaves."""

    def check(self, found, text, book, d, e, mixed):
        days = points_of(book, d, e)
        keys = list(days)
        mixed.shuffle(keys)
        days = {key: days[key] for key in keys}
        held = [piece for piece in found if piece.admits(days)]
        self.assertEqual(len(held), 1, (text, list(book), d, e))
        piece, = held
        expected = naive.run(text, list(book), d, e)
        if isinstance(expected, int):
            self.assertEqual((piece.fails, piece.rows), (expected, []), (text, list(book), d, e))
        else:
            self.assertIsNone(piece.fails, (text, list(book), d, e))
            rows = [(day_of(first, days), day_of(until, days), label) for first, until, label in piece.rows]
            self.assertEqual(rows, expected, (text, list(book), d, e))

    def walk(self, text, ends, count, shape, two_days, width, most):
        handler = Handler.read(text, ends)
        mixed = random.Random(7)
        found = {}
        for open_last in (False, True):
            if (count or not open_last) and (shape != "lasting" or open_last):
                found[open_last] = pieces(handler, count, shape=shape, open_last=open_last, two_days=two_days)
        for book, d, e, is_open in slow.some(scenes(count, shape, ends, width, two_days), most, 5):
            self.check(found[is_open], text, book, d, e, mixed)

    def test_each_scene_is_in_one_piece(self):
        for text in TEXTS:
            for ends in slow.ENDS:
                told = str(turned(Handler.read(text), ends))
                for shape in slow.SHAPES:
                    for two_days in (False, True):
                        for count in range(shape == "lasting", 4):
                            self.walk(told, ends, count, shape, two_days, 6, 40)

    def test_up_to_six_rows(self):
        for text in TEXTS[:3] + TEXTS[8:]:
            for count in (4, 5, 6):
                for shape in slow.SHAPES:
                    self.walk(text, LAST, count, shape, False, 8 if shape == "apart" else 7, 24)

    def test_days_far_apart_and_near(self):
        mixed = random.Random(11)
        for text in TEXTS:
            for ends in slow.ENDS:
                told = str(turned(Handler.read(text), ends))
                found = pieces(Handler.read(told, ends), 2, two_days=True)
                for base in (-HUGE * 10 + 1, -HUGE, 0, HUGE):
                    for _ in range(12):
                        far = [base, base + mixed.choice([1, 2, HUGE]), 0]
                        stops = sorted({mixed.choice(far) + mixed.randint(0, 9) for _ in range(40)})[:12]
                        first, stop, begin, end = sorted(mixed.sample(stops, 4))
                        begin = mixed.choice([begin, stop])
                        back = 1 if ends == LAST else 0
                        book = Book((first, stop - back, 1), (begin, end - back, 2), ends=ends)
                        d, e = mixed.choice(stops), mixed.choice(stops)
                        self.check(found, told, book, d, e, mixed)

    def test_no_rows(self):
        handler = Handler.read("add from d until e")
        piece, = pieces(handler, 0, two_days=True)
        self.assertEqual((piece.rows, piece.fails), ([(("d", 0), ("e", 0), 0)], None))
        self.assertTrue(piece.admits({"e": -3, "d": 4}))
        piece, = pieces(handler, 0)
        self.assertEqual(piece.rows, [(("d", 0), None, 0)])
        piece, = pieces(Handler.read("add from d until empty\nadd from e until d"), 0, shape="solid")
        self.assertEqual((piece.rows, piece.fails), ([], 2))


class PieceTest(unittest.TestCase):
    def test_the_kinds_of_the_attributes(self):
        for text in TEXTS:
            for open_last in (False, True):
                points = ["d", "e", "first 1", "until 1", "first 2"] + ([] if open_last else ["until 2"])
                for piece in pieces(Handler.read(text), 2, open_last=open_last, two_days=True):
                    self.assertIsInstance(piece.bounds, list)
                    for left, right, most in piece.bounds:
                        self.assertIn(left, points)
                        self.assertIn(right, points)
                        self.assertIs(type(most), int)
                    self.assertIsInstance(piece.rows, list)
                    for first, until, label in piece.rows:
                        self.assertIn(label, [0, 1, 2])
                        for point, shift in [first] if until is None else [first, until]:
                            self.assertIn(point, points)
                            self.assertIs(type(shift), int)
                    self.assertTrue(piece.fails is None or (type(piece.fails) is int and piece.rows == []))

    def test_without_a_second_day_there_is_no_point_for_it(self):
        for piece in pieces(Handler.read("drop where first >= e\ndrop where first >= d"), 2):
            self.assertNotIn("e", [point for bound in piece.bounds for point in bound[:2]])

    def test_admits(self):
        found = pieces(Handler.read("drop where first < d"), 1)
        dropped = [piece for piece in found if piece.rows == []]
        kept = [piece for piece in found if piece.rows == [(("first 1", 0), ("until 1", 0), 1)]]
        self.assertEqual((len(dropped), len(kept), len(found)), (1, 1, 2))
        for first in range(-2, 3):
            days = {"until 1": 5, "first 1": first, "d": 0}
            self.assertIs(dropped[0].admits(days), first < 0)
            self.assertIs(kept[0].admits(days), first >= 0)
            self.assertEqual(days, {"until 1": 5, "first 1": first, "d": 0})

    def test_all_bounds_count(self):
        piece = Piece([("d", "e", 3), ("e", "d", -1)], [], None)
        self.assertEqual([day for day in range(-9, 9) if piece.admits({"d": day, "e": 0})], [1, 2, 3])
        self.assertTrue(Piece([], [], None).admits({"d": 0}))

    def test_the_lists_are_new(self):
        handler = Handler.read(slow.RIGHT["set"])
        found = pieces(handler, 1)
        for piece in found:
            piece.bounds.append(("d", "d", -1))
            piece.rows.append(None)
        found.clear()
        for piece in pieces(handler, 1):
            self.assertNotIn(("d", "d", -1), piece.bounds)
            self.assertNotIn(None, piece.rows)


class WrongScenesTest(unittest.TestCase):
    HANDLER = Handler.read("drop where first < d")

    def test_no_scene(self):
        for shape in slow.SHAPES:
            with self.assertRaises(NoScene):
                pieces(self.HANDLER, 0, shape=shape, open_last=True)
        for count in (0, 1, 2, 6):
            with self.assertRaises(NoScene):
                pieces(self.HANDLER, count, shape="lasting")
        self.assertEqual(len(pieces(self.HANDLER, 0, shape="solid")), 1)

    def test_too_many_rows(self):
        for shape, open_last in [("apart", False), ("apart", True), ("solid", False), ("lasting", True)]:
            with self.assertRaises(TooMany) as caught:
                pieces(self.HANDLER, 7, shape=shape, open_last=open_last)
            self.assertEqual(caught.exception.most, 6)
            self.assertGreater(len(pieces(self.HANDLER, 6, shape=shape, open_last=open_last)), 1)

    def test_no_scene_goes_ahead(self):
        with self.assertRaises(NoScene):
            pieces(self.HANDLER, 7, shape="lasting", open_last=False)


if __name__ == "__main__":
    unittest.main()
