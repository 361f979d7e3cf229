"""Points 36 and 37: changes of lines."""

import inspect
import itertools
import random
import unittest

import slow
from untilrows import mends as module
from untilrows.errors import BadLine, RowsError, TooMany, Twice, Unknown
from untilrows.handlers import Handler
from untilrows.mends import mended, mends
from untilrows.operations import operation
from untilrows.rows import Ends
from untilrows.verdicts import judge

NEXT = Ends.NEXT_DAY
CUT, DROP, ADD = slow.RIGHT["set"].split("\n")


class MendedTest(unittest.TestCase):
    HANDLER = Handler.read("flag some = first > d\ndrop where first = d\nadd from d until d if some", NEXT)

    def text(self, *changes):
        return str(mended(self.HANDLER, *changes))

    def test_what_is_listed_is_defined_where_it_is_listed(self):
        for found in [mended, mends]:
            self.assertEqual(found.__module__, "untilrows.mends")
            self.assertIs(getattr(module, found.__name__), found)
        self.assertEqual(mended(handler=self.HANDLER), self.HANDLER)
        told = inspect.signature(mends).parameters.values()
        self.assertEqual([(arg.name, arg.kind) for arg in told],
                         [("handler", inspect.Parameter.POSITIONAL_OR_KEYWORD),
                          ("operation", inspect.Parameter.POSITIONAL_OR_KEYWORD),
                          ("pool", inspect.Parameter.VAR_POSITIONAL), ("shape", inspect.Parameter.KEYWORD_ONLY)])
        handler = Handler.read(slow.RIGHT["set"])
        self.assertEqual(mends(shape="solid", operation=operation("set"), handler=handler), [()])

    def test_no_change(self):
        found = mended(self.HANDLER)
        self.assertEqual(found, self.HANDLER)
        self.assertEqual((found.ends, found.heads), (NEXT, 1))

    def test_several_changes_at_once(self):
        self.assertEqual(self.text((3, "add from d until empty"), (1, "flag some = first >= d")),
                         "flag some = first >= d\ndrop where first = d\nadd from d until empty")
        self.assertEqual(self.text((2, "drop where first < d"), (3, "add from d until empty unless some")),
                         "flag some = first > d\ndrop where first < d\nadd from d until empty unless some")
        self.assertEqual(str(self.HANDLER), "flag some = first > d\ndrop where first = d\nadd from d until d if some")

    def test_a_line_left_out(self):
        self.assertEqual(self.text((2, None)), "flag some = first > d\nadd from d until d if some")
        # The numbers mean the lines as they were before.
        self.assertEqual(self.text((1, None), (3, None), (2, "drop where first > e")), "drop where first > e")

    def test_a_text_of_several_lines(self):
        self.assertEqual(self.text((2, "drop where first = d\ndrop where first = e"), (3, "add from d until e")),
                         "flag some = first > d\ndrop where first = d\ndrop where first = e\nadd from d until e")
        self.assertEqual(mended(self.HANDLER, (1, "flag more = first > d\nflag some = first > d")).heads, 2)

    def test_unknown_lines(self):
        for changes, number in [([(4, None)], 4), ([(0, "x")], 0), ([(-1, None)], -1),
                                ([(2, None), (2, None), (9, "x"), (7, "x")], 9), ([(1, "x"), (5, None), (4, None)], 5)]:
            with self.assertRaises(Unknown) as caught:
                self.text(*changes)
            self.assertEqual(caught.exception.word, number)

    def test_a_line_changed_twice(self):
        for changes, number in [([(2, None), (2, None)], 2), ([(1, "x"), (3, "y"), (2, "z"), (3, None), (1, None)], 3),
                                ([(3, "add from d until d")] * 3, 3)]:
            with self.assertRaises(Twice) as caught:
                self.text(*changes)
            self.assertEqual(caught.exception.number, number)

    def test_what_reading_raises(self):
        for changes, number in [([(2, "drop")], 2), ([(2, "drop where first = d\n")], 3), ([(1, None)], 2),
                                ([(2, None), (3, "add from d until d if none")], 2), ([(1, "")], 1),
                                ([(1, None), (2, None), (3, None)], 1),
                                ([(2, "read some = least first where first > d")], 2)]:
            with self.assertRaises(BadLine) as caught:
                self.text(*changes)
            self.assertEqual(caught.exception.number, number)
        with self.assertRaises(TooMany) as caught:
            self.text((2, "\n".join(["drop where first = d"] * 8)))
        self.assertEqual(caught.exception.most, 8)
        self.assertEqual(len(mended(self.HANDLER, (2, "\n".join(["drop where first = d"] * 7))).lines), 9)


class MendsTest(unittest.TestCase):
    def expected(self, handler, work, pool, shape):
        """Return the least sets by trying all sets."""
        for size in range(len(pool) + 1):
            found = []
            for chosen in itertools.combinations(range(len(pool)), size):
                try:
                    better = mended(handler, *[pool[place] for place in chosen])
                except RowsError:
                    continue
                if judge(better, work, shape=shape):
                    found.append(chosen)
            if found:
                return found
        return []

    def check(self, text, word, pool, shape="apart"):
        handler, work = Handler.read(text), operation(word)
        found = mends(handler, work, *pool, shape=shape)
        self.assertEqual(found, self.expected(handler, work, pool, shape))
        self.assertEqual(str(handler), text)
        return found

    def test_a_right_handler(self):
        self.assertEqual(self.check(slow.RIGHT["set"], "set", []), [()])
        self.assertEqual(self.check(slow.RIGHT["set"], "set", [(1, None), (7, "x")]), [()])

    def test_one_change(self):
        text = "\n".join([CUT.replace("d - 1", "d"), DROP, ADD])
        pool = [(1, None), (1, CUT), (2, None), (1, CUT + "\n" + DROP), (3, "add from d + 1 until empty")]
        self.assertEqual(self.check(text, "set", pool), [(1,), (3,)])

    def test_two_changes(self):
        text = "\n".join([CUT.replace("d - 1", "d"), DROP.replace(">=", ">"), ADD])
        pool = [(2, DROP), (1, CUT), (2, "drop where first > d - 1"), (3, None), (1, CUT)]
        self.assertEqual(self.check(text, "set", pool), [(0, 1), (0, 4), (1, 2), (2, 4)])

    def test_three_changes(self):
        text = "drop where first = d\ndrop where first = d\nadd from d until d"
        self.assertEqual(self.check(text, "set", [(3, ADD), (1, CUT), (2, DROP), (2, None)]), [(0, 1, 2)])

    def test_no_set_makes_it_right(self):
        text = "\n".join([DROP, ADD])
        self.assertEqual(self.check(text, "set", []), [])
        self.assertEqual(self.check(text, "set", [(1, None), (2, None), (9, CUT), (1, "x")]), [])

    def test_more_changes_may_be_worse(self):
        # Each change alone makes it right, but both together do not.
        text = "\n".join([DROP, CUT])
        pool = [(1, DROP + "\n" + ADD), (2, CUT + "\n" + ADD)]
        self.assertEqual(self.check(text, "set", pool), [(0,), (1,)])
        self.assertFalse(judge(mended(Handler.read(text), *pool), operation("set")))
        pool = [(1, DROP + "\n" + ADD), (2, CUT + "\ndrop where first = d")]
        self.assertEqual(self.check(text, "set", pool), [(0,)])

    def test_changes_of_one_line_are_never_together(self):
        text = "\n".join([CUT.replace("d - 1", "d"), ADD])
        self.assertEqual(self.check(text, "set", [(1, CUT), (1, CUT + "\n" + DROP), (2, DROP + "\n" + ADD)]),
                         [(1,)])
        self.assertEqual(self.check(text, "set", [(1, CUT), (1, CUT), (2, DROP + "\n" + ADD)]), [(0, 2), (1, 2)])

    def test_each_shape(self):
        text = ("read begin = greatest first where first <= d\nread stop = least until where until >= d or empty\n"
                "drop where first = begin\nset until = stop where until = begin")
        pool = [(4, "set until = stop where until = begin - 1"), (3, None),
                (1, "read begin = greatest until where until < d\nread stop = least until where until >= d or empty"),
                (2, None), (3, slow.RIGHT["take"])]
        self.assertEqual([self.check(text, "give", pool, shape) for shape in slow.SHAPES],
                         [[(2, 3, 4)], [(0,)], [(0,)]])
        handler = Handler.read(text)
        self.assertEqual(mends(handler, operation("give"), *pool[:4]), [])
        self.assertEqual(mends(handler, operation("give"), *pool, shape="solid"), [(0,)])

    def test_small_faults_are_mended(self):
        mixed = random.Random(4)
        for word, right in slow.RIGHT.items():
            lines = right.split("\n")
            for text in mixed.sample(list(slow.faulty(right)), 5):
                pool = [(number, line) for number, line in enumerate(lines, start=1)]
                pool = mixed.sample(pool + [(1, None), (len(lines), None)], min(5, len(pool) + 2))
                try:
                    Handler.read(text)
                except RowsError:
                    continue
                for shape in slow.SHAPES:
                    self.check(text, word, pool, shape)

    def test_too_many_changes(self):
        handler = Handler.read(slow.RIGHT["set"])
        with self.assertRaises(TooMany) as caught:
            mends(handler, operation("set"), *[(9, "x")] * 6)
        self.assertEqual(caught.exception.most, 5)
        self.assertEqual(mends(handler, operation("set"), *[(9, "x")] * 5), [()])

    def test_the_kinds(self):
        found = mends(Handler.read(slow.RIGHT["set"]), operation("set"))
        self.assertIs(type(found), list)
        self.assertIs(type(found[0]), tuple)
        found.append(None)
        self.assertEqual(mends(Handler.read(slow.RIGHT["set"]), operation("set")), [()])


if __name__ == "__main__":
    unittest.main()
