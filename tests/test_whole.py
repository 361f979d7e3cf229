"""The whole program: the arguments of the interface, and that nothing but what is promised is changed."""

import copy
import importlib
import inspect
import itertools
import unittest

import slow
from untilrows import books, desks, faults, handlers, mends, operations, pieces, prints, readers, tables, verdicts
from untilrows import weaves
from untilrows.books import Book
from untilrows.handlers import Call, Handler
from untilrows.operations import operation
from untilrows.rows import Ends, Row

# All that can be called, with its arguments and their default values; a method without its own object.
CALLED = {
    "rows": {
        "Row": "(first, until, value, ends='last day')", "Row.close": "(until)", "Row.turned": "(ends)",
    },
    "tables": {
        "Table": "()", "Table.changes": "()", "Table.first_difference": "(other)", "Table.of_changes": "(changes)",
    },
    "books": {
        "Book": "(*rows, ends='last day')", "Book.bearer": "(day)", "Book.table": "()", "Book.turned": "(ends)",
        "Book.joined": "()", "Book.gaps": "()", "Book.fits": "(shape)", "Book.of": "(table, ends='last day')",
        "Book.from_rows": "(rows, ends='last day')",
    },
    "handlers": {
        "Handler.read": "(text, ends='last day')", "Handler.__call__": "(book, d, e=None, value=0)",
        "Call": "(handler, d, e=None, value=0)", "Call.__call__": "(book)", "turned": "(handler, ends)",
    },
    "operations": {
        "Operation.allows": "(book, d, e=None)", "Operation.due": "(book, d, e=None, value=0)", "operation": "(word)",
    },
    "faults": {
        "shown": "(rows, day, ends='last day')", "fault_of": "(handler, operation, book, d, e=None, value=0)",
        "enough": "(handler, operation, shape='apart')",
        "culprits": "(handler, operation, book, d, e=None, value=0)",
    },
    "pieces": {
        "Piece.admits": "(days)", "pieces": "(handler, count, *, shape='apart', open_last=False, two_days=False)",
    },
    "verdicts": {
        "judge": "(handler, operation, *, shape='apart')", "widest": "(handler, operation)",
        "alike": "(one, other, *, shape='apart', by='days', two_days=False)",
    },
    "readers": {
        "Reader.read": "(text, ends='last day')", "Reader.__call__": "(book, day)",
        "read_alike": "(one, other, *, shape='apart')",
    },
    "weaves": {
        "weave": "(book, one, other, turns)", "weaves": "(one, other)", "judge_weave": "(one, other, turns)",
        "holds": "(one, other)",
    },
    "mends": {
        "mended": "(handler, *changes)", "mends": "(handler, operation, *pool, shape='apart')",
    },
    "desks": {
        "Desk": "(book, **handlers)", "Desk.run": "(*calls)", "Desk.call": "(name, d, e=None, value=0)",
        "Desk.undo": "()", "Desk.names": "()",
    },
    "prints": {"printed": "(book)", "read_printed": "(text)"},
}

# The methods with two underscores, and the properties, that the interface lists, by class.
OWN = {
    "rows": {"Row": ["until", "stop", "__add__", "__radd__", "__sub__", "__contains__", "__eq__"]},
    "tables": {"Table": ["__getitem__", "__setitem__", "__iter__", "__len__", "__eq__"]},
    "books": {"Book": ["__getitem__", "__setitem__", "__iter__", "__len__", "__eq__", "narrowest"]},
    "handlers": {"Handler": ["__str__", "__eq__", "__call__"], "Call": ["__call__"]},
    "verdicts": {"Verdict": ["__bool__"]},
    "readers": {"Reader": ["__call__"]},
    "weaves": {"WeaveVerdict": ["__bool__"]},
    "desks": {"Desk": ["kept", "done"]},
}

ERRORS = {
    "EmptyRow": ["first", "end"], "EmptyStretch": ["first", "last"], "Unordered": ["index"],
    "Clash": ["earlier", "later"], "BadLine": ["number"], "TooMany": ["most"], "TooFar": ["number"],
    "NoDay": ["number"], "OtherEnds": ["ends"], "NotAllowed": ["word"], "Unknown": ["word"], "Twice": ["number"],
    "TwoRows": ["earlier", "later"], "NothingWrong": [], "NoScene": [], "HasHeads": [], "BadTurns": ["turns"],
    "Refused": ["index", "name", "why"],
}


def arguments(found):
    """Return the signature without the object that a method belongs to."""
    told = inspect.signature(found)
    if list(told.parameters)[:1] == ["self"]:
        told = told.replace(parameters=list(told.parameters.values())[1:])
    return str(told)


class InterfaceTest(unittest.TestCase):
    def test_arguments_and_default_values(self):
        for module, called in CALLED.items():
            place = importlib.import_module(f"untilrows.{module}")
            for name, told in called.items():
                owner, _, method = name.partition(".")
                found = getattr(place, owner)
                self.assertEqual(found.__module__, place.__name__)
                if method:
                    self.assertIn(method, vars(found))
                    found = getattr(found, method)
                self.assertEqual(arguments(found), told, name)

    def test_each_method_is_defined_in_its_class(self):
        for module, owners in OWN.items():
            place = importlib.import_module(f"untilrows.{module}")
            for owner, methods in owners.items():
                for method in methods:
                    self.assertIn(method, vars(getattr(place, owner)), (owner, method))

    def test_class_values(self):
        self.assertEqual((Ends.LAST_DAY, Ends.NEXT_DAY), ("last day", "next day"))
        self.assertEqual((books.Shape.APART, books.Shape.SOLID, books.Shape.LASTING), ("apart", "solid", "lasting"))
        self.assertEqual(operations.Operation.WORDS,
                         ("set", "end", "fill", "between", "clear", "take", "give", "move"))

    def test_errors(self):
        place = importlib.import_module("untilrows.errors")
        self.assertEqual(place.RowsError.__bases__, (ValueError,))
        for name, told in ERRORS.items():
            found = getattr(place, name)
            self.assertEqual(found.__bases__, (place.RowsError,))
            values = list(range(len(told)))
            for error in (found(*values), found(**dict(zip(told, values)))):
                self.assertEqual([getattr(error, word) for word in told], values)

    def test_attributes_of_each_object(self):
        handler = Handler.read("drop where first = d")
        for verdict in [verdicts.judge(handler, operation("set")), verdicts.alike(handler, handler)]:
            self.assertEqual(set(vars(verdict)), {"holds", "count", "book", "d", "e", "fault"})
        verdict = weaves.judge_weave(handler, handler, "12")
        self.assertEqual(set(vars(verdict)), {"holds", "count", "book", "d_one", "d_other"})
        fault = faults.fault_of(handler, operation("set"), Book(), 1)
        self.assertEqual(set(vars(fault)), {"kind", "line", "row", "day", "shown", "wanted"})
        piece = pieces.pieces(handler, 1)[0]
        self.assertEqual(set(vars(piece)), {"bounds", "rows", "fails"})


class KeywordTest(unittest.TestCase):
    """All arguments can be given by their names, in any order."""

    def check(self, found, **told):
        expected = found(*told.values())
        for keys in itertools.permutations(told):
            self.assertEqual(found(**{key: told[key] for key in keys}), expected)
        return expected

    def test_small_modules(self):
        self.check(Row, first=1, until=4, value="a", ends=Ends.NEXT_DAY)
        row = Row(1, 4, "a")
        self.check(row.turned, ends=Ends.NEXT_DAY)
        self.assertIsNone(row.close(until=9))
        self.assertEqual(row.until, 9)
        self.check(tables.Table.of_changes, changes=[(1, 2), (3, None)])
        table = tables.Table.of_changes([(1, 2), (3, None)])
        self.check(table.first_difference, other=tables.Table())
        self.check(Book.of, table=table, ends=Ends.NEXT_DAY)
        self.check(Book.from_rows, rows=[(1, 2, 3)], ends=Ends.NEXT_DAY)
        book = Book((1, 2, 3), (5, None, 4))
        self.check(book.bearer, day=2)
        self.check(book.turned, ends=Ends.NEXT_DAY)
        self.check(book.fits, shape="solid")
        self.check(prints.printed, book=book)
        self.check(prints.read_printed, text=prints.printed(book))

    def test_handlers_and_faults(self):
        book = Book((1, 2, 3), (5, None, 4))
        handler = self.check(Handler.read, text=slow.RIGHT["between"], ends=Ends.LAST_DAY)
        work = operation(word="between")
        self.check(handler, book=book, d=2, e=7, value="x")
        self.check(Call(value="x", e=7, d=2, handler=handler), book=book)
        self.check(handlers.turned, handler=handler, ends=Ends.NEXT_DAY)
        self.check(work.allows, book=book, d=2, e=7)
        self.check(work.due, book=book, d=2, e=7, value="x")
        self.check(faults.shown, rows=[(1, 2, 3)], day=2, ends=Ends.NEXT_DAY)
        self.assertIsNone(self.check(faults.fault_of, handler=handler, operation=work, book=book, d=2, e=7, value=5))
        self.check(faults.enough, handler=handler, operation=work, shape="solid")
        bad = Handler.read("add from d until e")
        self.check(faults.culprits, handler=bad, operation=work, book=book, d=2, e=7, value=5)

    def test_questions(self):
        handler = Handler.read(slow.RIGHT["set"])
        self.check(verdicts.widest, handler=handler, operation=operation("set"))
        self.check(readers.Reader.read("latest where first <= d"), book=Book((1, 2, 3)), day=5)
        self.check(weaves.holds, one=handler, other=Handler.read("drop where first = d"))
        self.check(weaves.weave, book=Book((1, 2, 3)), one=Call(handler, 2), other=Call(handler, 5), turns="112212")
        self.assertEqual(list(weaves.weaves(other=handler, one=handler)), list(weaves.weaves(handler, handler)))
        self.assertEqual(mends.mended(handler=handler), handler)
        desk = desks.Desk(book=Book((1, 2, 3)), put=handler)
        self.assertIsNone(desk.call(value=1, name="put", d=2))
        self.assertEqual(list(desk.kept), [(1, 1, 3), (2, None, 1)])


class NothingChangedTest(unittest.TestCase):
    def setUp(self):
        self.book = Book((1, 4, "a"), (5, 7, "b"), (9, None, 3))
        self.handler = Handler.read(slow.RIGHT["between"])
        self.bad = Handler.read("flag some = first > d\ncopy until = e where first > d if some\nadd from d until e")
        self.given = [self.book, self.handler, self.bad]
        self.before = copy.deepcopy([vars(thing) for thing in self.given])
        self.texts = [str(self.handler), str(self.bad), list(self.book)]

    def tearDown(self):
        self.assertEqual([list(vars(thing)) for thing in self.given], [list(told) for told in self.before])
        self.assertEqual([str(self.handler), str(self.bad), list(self.book)], self.texts)
        self.assertEqual((self.handler, self.bad), (Handler.read(self.texts[0]), Handler.read(self.texts[1])))

    def test_calls(self):
        work = operation("between")
        for handler in (self.handler, self.bad):
            self.assertIsNot(handler(self.book, 2, 6), handler(self.book, 2, 6))
            handler(self.book, 2, 6).clear()
            work.due(self.book, 2, 6)[1, 9] = 5
            faults.fault_of(handler, work, self.book, 2, 6)
        faults.culprits(self.bad, work, self.book, 2, 6)[0, 99] = "x"
        self.book.turned(Ends.NEXT_DAY)[0, 99] = "x"
        self.book.joined()[0, 99] = "x"
        self.book.table()[0, 99] = "x"
        self.book.bearer(2).close(90)
        prints.printed(self.book)

    def test_questions(self):
        work = operation("between")
        for handler in (self.handler, self.bad):
            for shape in slow.SHAPES:
                verdicts.judge(handler, work, shape=shape)
                verdicts.alike(handler, self.handler, shape=shape, by="rows", two_days=True)
                pieces.pieces(handler, 2, shape=shape, open_last=True, two_days=True).clear()
            mends.mends(handler, work, (1, None), (2, "drop where first = d")).clear()
            mends.mended(handler, (2, None))
        weaves.holds(Handler.read("drop where first = d"), Handler.read("add from d until d")).clear()
        one = Handler.read("drop where first = d\nadd from d until e")
        weaves.weave(self.book, Call(one, 2, 6), Call(one, 3, 7), "1212").clear()
        reader = readers.Reader.read("latest where first <= d")
        reader(self.book, 5)
        readers.read_alike(reader, reader)

    def test_desks(self):
        desk = desks.Desk(self.book, put=self.handler)
        desk.call("put", 2, 6)
        desk.kept[1, 99] = 5
        desk.undo()

    def test_given_lists_and_dicts(self):
        rows, changes = [(5, 6, 1), (1, 2, 3)], [(1, "a"), (5, None)]
        days = {"d": 1, "first 1": 3, "until 1": 4}
        for piece in pieces.pieces(Handler.read("drop where first < d"), 1):
            piece.admits(days)
        Book.from_rows(rows)[1, 9] = "x"
        tables.Table.of_changes(changes)[1, 9] = "x"
        faults.shown(rows, 5).append(1)
        self.assertEqual(rows, [(5, 6, 1), (1, 2, 3)])
        self.assertEqual(changes, [(1, "a"), (5, None)])
        self.assertEqual(days, {"d": 1, "first 1": 3, "until 1": 4})


if __name__ == "__main__":
    unittest.main()
