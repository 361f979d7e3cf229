"""Points 31 and 32: readers, and whether two of them read alike."""

import inspect
import random
import unittest

import slow
from untilrows import readers
from untilrows.books import Book
from untilrows.errors import BadLine, OtherEnds, TwoRows
from untilrows.readers import Reader, read_alike
from untilrows.rows import Ends

LAST, NEXT = Ends.LAST_DAY, Ends.NEXT_DAY
HUGE = 10 ** 60 - 1
ROWS = [(1, 4, "a"), (5, 7, "b"), (9, None, "c")]


def read_by(text, rows, day, ends=LAST):
    """Return what the reader gives, or the two rows that it raises TwoRows with."""
    try:
        return Reader.read(text, ends)(Book.from_rows(rows, ends), day)
    except TwoRows as error:
        return error.earlier, error.later


def expected(text, rows, day):
    """Return what a slow model of the reader gives for the rows of a book."""
    pick, tests = text.split(" where ")
    found = []
    for row in rows:
        answers = []
        for test in tests.split(" and "):
            field, sign, *rest = test.split(" ")
            if sign == "is":
                answers.append(row[1] is None)
            elif field == "until" and row[1] is None:
                answers.append(rest[-1] == "empty")
            else:
                shift = 0 if len(rest) < 3 or rest[1] == "or" else int(rest[1] + rest[2])
                left, right = (row[0] if field == "first" else row[1]), day + shift
                answers.append({"<": left < right, "<=": left <= right, ">": left > right, ">=": left >= right}[sign])
        if all(answers):
            found.append(row)
    if pick == "only" and len(found) > 1:
        return found[0], found[1]
    return None if not found else found[0 if pick == "earliest" else -1][2]


def any_test(mixed):
    shift = mixed.choice(["", "", " + 1", " - 1", " + 2", " - 2"])
    if mixed.random() < 0.4:
        return f"first {mixed.choice(['<', '<='])} d{shift}"
    if mixed.random() < 0.1:
        return "until is empty"
    return f"until {mixed.choice(['>', '>='])} d{shift}{mixed.choice(['', ' or empty', ' or empty'])}"


def any_text(mixed):
    tests = [any_test(mixed) for _ in range(mixed.randint(1, 3))]
    return f"{mixed.choice(['latest', 'earliest', 'only'])} where {' and '.join(tests)}"


class InterfaceTest(unittest.TestCase):
    def test_what_is_listed_is_defined_where_it_is_listed(self):
        for found in [Reader, read_alike]:
            self.assertEqual(found.__module__, "untilrows.readers")
            self.assertIs(getattr(readers, found.__name__), found)
        self.assertLessEqual({"read", "__call__"}, set(vars(Reader)))

    def test_attributes(self):
        reader = Reader.read("latest where first <= d")
        self.assertEqual((reader.text, reader.ends), ("latest where first <= d", LAST))
        reader = Reader.read(ends=NEXT, text="only where until is empty")
        self.assertEqual((reader.text, reader.ends), ("only where until is empty", NEXT))

    def test_arguments(self):
        reader = Reader.read("latest where first <= d")
        self.assertEqual(reader(day=5, book=Book(*ROWS)), "b")
        told = inspect.signature(read_alike).parameters.values()
        self.assertEqual([(arg.name, arg.kind == arg.KEYWORD_ONLY) for arg in told],
                         [("one", False), ("other", False), ("shape", True)])
        self.assertTrue(read_alike(shape="solid", other=reader, one=reader))


class TextTest(unittest.TestCase):
    def test_all_forms(self):
        terms = ["d", "d + 1", "d - 1", "d + 1000000000", "d - 999999999"]
        tests = [f"first {sign} {term}" for sign in ("<", "<=") for term in terms]
        tests += [f"until {sign} {term}{rest}" for sign in (">", ">=") for term in terms for rest in ("", " or empty")]
        tests.append("until is empty")
        for pick in ("latest", "earliest", "only"):
            for test in tests:
                for text in [f"{pick} where {test}", f"{pick} where {test} and first < d",
                             f"{pick} where until is empty and {test} and {test}"]:
                    self.assertEqual(Reader.read(text, NEXT).text, text)

    def test_all_other_texts_are_bad(self):
        for text in [
                "", " ", "latest", "latest where", "latest where ", "where first < d", "last where first < d",
                "Latest where first < d", " latest where first < d", "latest where first < d ",
                "latest  where first < d", "latest where first  < d", "latest where first < d\n", "\n",
                "latest where first < d\nlatest where first < d", "latest\twhere first < d",
                "latest where first > d", "latest where first >= d", "latest where first = d",
                "latest where until < d", "latest where until <= d", "latest where until = d",
                "latest where until <= d or empty", "latest where until is not empty", "latest where first is empty",
                "latest where first < d or empty", "latest where until > d or", "latest where until > d or full",
                "latest where until > empty", "latest where first < e", "latest where first < first",
                "latest where first < until", "latest where until > first", "latest where first < d + 0",
                "latest where first < d + 01", "latest where first < d + 1000000001", "latest where first < d + -1",
                "latest where first < d+1", "latest where first < d +", "latest where first < d + d",
                "latest where first < 5", "latest where first < d and", "latest where and first < d",
                "latest where first < d first < d", "latest where first < d or until > d",
                "latest where first < d and first < d and first < d and first < d",
                "latest where first < d if some", "latest where value = d", "latest where first"]:
            for ends in slow.ENDS:
                with self.assertRaises(BadLine, msg=text) as caught:
                    Reader.read(text, ends)
                self.assertEqual(caught.exception.number, 1)


class CallTest(unittest.TestCase):
    def test_the_value_that_stands_on_a_day(self):
        book = Book.from_rows(ROWS)
        for text in ["latest where first <= d and until >= d or empty",
                     "only where first < d + 1 and until > d - 1 or empty",
                     "earliest where until >= d or empty and first <= d"]:
            for day in range(-1, 14):
                self.assertEqual(Reader.read(text)(book, day), book[day])

    def test_the_picks(self):
        self.assertEqual([read_by("latest where first <= d", ROWS, day) for day in (0, 1, 5, 8, 9)],
                         [None, "a", "b", "b", "c"])
        self.assertEqual([read_by("earliest where first <= d", ROWS, day) for day in (0, 1, 5, 9)],
                         [None, "a", "a", "a"])
        self.assertEqual([read_by("only where first <= d", ROWS, day) for day in (0, 4, 5, 9)],
                         [None, "a", (ROWS[0], ROWS[1]), (ROWS[0], ROWS[1])])
        self.assertEqual(read_by("only where until >= d or empty", ROWS, 6), (ROWS[1], ROWS[2]))

    def test_open_rows(self):
        self.assertEqual(read_by("latest where until > d", ROWS, 0), "b")
        self.assertEqual(read_by("latest where until > d or empty", ROWS, 99), "c")
        self.assertEqual(read_by("only where until is empty", ROWS, -5), "c")
        self.assertIsNone(read_by("only where until is empty and until > d", ROWS, -5))
        self.assertIsNone(read_by("only where until is empty", ROWS[:2], 3))
        self.assertIsNone(read_by("only where first < d", [], 3))

    def test_long_days_and_all_values(self):
        rows = [(-HUGE, HUGE - 1, 0), (HUGE, None, "")]
        self.assertEqual(read_by("only where first <= d and until >= d or empty", rows, HUGE - 1), 0)
        self.assertEqual(read_by("only where first <= d and until >= d or empty", rows, HUGE), "")

    def test_compared_with_a_slow_model(self):
        mixed = random.Random(3)
        for _ in range(300):
            text, ends = any_text(mixed), mixed.choice(slow.ENDS)
            for book in mixed.sample(slow.books(mixed.randint(0, 3), "apart", ends, 6), 1):
                for day in range(-3, 10):
                    self.assertEqual(read_by(text, list(book), day, ends), expected(text, list(book), day), text)

    def test_other_ends_come_first(self):
        reader = Reader.read("only where first <= d", NEXT)
        with self.assertRaises(OtherEnds) as caught:
            reader(Book.from_rows(ROWS), 9)
        self.assertEqual(caught.exception.ends, LAST)
        with self.assertRaises(TwoRows):
            reader(Book.from_rows(ROWS, NEXT), 9)


class ReadAlikeTest(unittest.TestCase):
    def check(self, one, other, shape, ends, width=7, most=40):
        """Compare the verdict with a slow walk over small books; return the number of rows, or None."""
        verdict = read_alike(Reader.read(one, ends), Reader.read(other, ends), shape=shape)
        told = (one, other, shape, ends)
        self.assertIs(bool(verdict), verdict.holds)
        self.assertEqual((verdict.e, verdict.fault), (None, None))
        counts = range({"apart": 4, "solid": 6, "lasting": 7}[shape])
        if verdict.holds:
            self.assertEqual([verdict.count, verdict.book, verdict.d], [None] * 3)
        else:
            self.assertTrue(verdict.book.fits(shape))
            self.assertEqual(verdict.book.ends, ends)
            self.assertEqual([value for _, _, value in verdict.book], list(range(1, verdict.count + 1)))
            self.assertTrue(self.differ(one, other, verdict.book, verdict.d), told)
            counts = range(verdict.count)
        for count in counts:
            for book in slow.some(slow.books(count, shape, ends, width), most, count):
                for d, _ in slow.calls(width, False):
                    self.assertFalse(self.differ(one, other, book, d), (told, list(book), d))
        return verdict.count

    def differ(self, one, other, book, day):
        found = [expected(text, list(book), day) for text in (one, other)]
        # It does not count which rows TwoRows is raised with.
        found = ["several" if isinstance(told, tuple) else told for told in found]
        return found[0] != found[1]

    def test_the_same_and_the_other_way_of_writing_it(self):
        for ends, sign, other_sign, shift in [(LAST, ">=", ">", " - 1"), (NEXT, ">", ">=", " + 1")]:
            one = f"latest where first <= d and until {sign} d or empty"
            for other, counts in [
                    (f"only where first < d + 1 and until {other_sign} d{shift} or empty", [None, None, None]),
                    (f"earliest where until {sign} d or empty and first <= d", [None, None, None]),
                    ("latest where first <= d", [1, 1, None]),
                    (f"earliest where until {sign} d or empty", [1, 1, 1]),
                    (f"latest where first < d and until {sign} d or empty", [1, 1, 1]),
                    (f"latest where first <= d and until {other_sign} d or empty", [1, 1, 2 if ends == LAST else None]),
                    (f"latest where first <= d and until {sign} d", [1, 1, 1])]:
                self.assertEqual([self.check(one, other, shape, ends) for shape in slow.SHAPES], counts, (ends, other))

    def test_the_latest_row_of_a_lasting_book(self):
        one, other = "latest where first <= d", "only where first <= d and until >= d or empty"
        self.assertEqual([self.check(one, other, shape, LAST) for shape in slow.SHAPES], [1, 1, None])
        other = "only where first <= d and until > d or empty"
        self.assertEqual([self.check(one, other, shape, NEXT) for shape in slow.SHAPES], [1, 1, None])

    def test_two_rows(self):
        one, other = "only where first < d", "latest where first < d"
        self.assertEqual([self.check(one, other, shape, LAST) for shape in slow.SHAPES], [2, 2, 2])
        one, other = "only where first < d and first < d + 5", "only where first <= d - 1"
        self.assertEqual([self.check(one, other, shape, LAST) for shape in slow.SHAPES], [None] * 3)
        # Both find two rows, but not the same ones.
        one, other = "only where until > d or empty", "only where until > d + 1 or empty"
        self.assertEqual([self.check(one, other, shape, LAST) for shape in slow.SHAPES], [1, 1, 2])

    def test_each_shape_with_the_fewest_rows(self):
        mixed = random.Random(5)
        answers = {}
        for place in range(500):
            one = any_text(mixed)
            other = any_text(mixed)
            if mixed.random() < 0.6:
                pick, tests = one.split(" where ")
                tests = tests.split(" and ")
                tests[mixed.randrange(len(tests))] = any_test(mixed)
                other = f"{mixed.choice([pick, 'only', 'latest'])} where {' and '.join(tests)}"
            shape, ends = slow.SHAPES[place % 3], mixed.choice(slow.ENDS)
            count = self.check(one, other, shape, ends, 7, 25)
            answers[shape, count] = answers.get((shape, count), 0) + 1
        for shape in slow.SHAPES:
            for count in (None, 1, 2):
                self.assertIn((shape, count), answers)
        self.assertIn(("lasting", 3), answers)

    def test_great_numbers(self):
        one = "latest where first < d - 1000000000 and until > d + 1000000000"
        self.assertEqual(self.check(one, one.replace("until >", "until >="), "solid", LAST), 1)
        self.assertIsNone(self.check(one, one.replace("latest", "only"), "apart", LAST))

    def test_other_ends(self):
        readers_of = [Reader.read("latest where first <= d", ends) for ends in slow.ENDS]
        for one, other in [readers_of, readers_of[::-1]]:
            with self.assertRaises(OtherEnds) as caught:
                read_alike(one, other)
            self.assertEqual(caught.exception.ends, other.ends)


if __name__ == "__main__":
    unittest.main()
