"""Point 39: books as texts."""

import random
import unittest

import slow
from untilrows import prints
from untilrows.books import Book
from untilrows.errors import BadLine, Clash, EmptyRow
from untilrows.prints import printed, read_printed
from untilrows.rows import Ends

NEXT = Ends.NEXT_DAY
HUGE = 10 ** 60 - 1
FIRST = "until is the last day"

# All characters that a string may have.
SIGNS = "".join(chr(code) for code in range(32, 127) if chr(code) != "%")


class PrintedTest(unittest.TestCase):
    def test_what_is_listed_is_defined_where_it_is_listed(self):
        for found in [printed, read_printed]:
            self.assertEqual(found.__module__, "untilrows.prints")
            self.assertIs(getattr(prints, found.__name__), found)
        self.assertEqual(read_printed(text=printed(book=Book((1, 2, 3)))), Book((1, 2, 3)))

    def test_the_lines(self):
        book = Book((7, None, "it's"), (-5, 3, 12), (5, 5, -7), (6, 6, ""))
        self.assertEqual(printed(book), "\n".join([
            "until is the last day",
            "          -5            3 12",
            "           5            5 -7",
            "           6            6 '",
            "           7         open 'it's",
        ]))

    def test_the_first_line(self):
        self.assertEqual(printed(Book()), "until is the last day")
        self.assertEqual(printed(Book(ends=NEXT)), "until is the next day")
        self.assertEqual(printed(Book((1, 3, 0), ends=NEXT)), "until is the next day\n           1            3 0")

    def test_twelve_signs_and_more(self):
        book = Book((-12345678901, 123456789012, 1), (1234567890123, None, "x"))
        self.assertEqual(printed(book).split("\n")[1:],
                         ["-12345678901 123456789012 1", "1234567890123         open 'x"])
        book = Book((-HUGE, -123456789012, HUGE), (HUGE, HUGE, -HUGE))
        self.assertEqual(printed(book).split("\n")[1:],
                         [f"-{'9' * 60} -123456789012 {'9' * 60}", f"{'9' * 60} {'9' * 60} -{'9' * 60}"])

    def test_both_kinds_of_values(self):
        for value, told in [(5, "5"), ("5", "'5"), (0, "0"), (-1, "-1"), ("-1", "'-1"), ("", "'"), (" ", "' "),
                            ("'", "''"), ("open", "'open"), ("a  b ", "'a  b "), (SIGNS, "'" + SIGNS)]:
            text = printed(Book((1, 2, value)))
            self.assertEqual(text, f"{FIRST}\n           1            2 {told}")
            (_, _, found), = read_printed(text)
            self.assertEqual((found, type(found)), (value, type(value)))


class ReadPrintedTest(unittest.TestCase):
    def bad(self, text, number):
        with self.assertRaises(BadLine, msg=text) as caught:
            read_printed(text)
        self.assertEqual(caught.exception.number, number, text)

    def test_printed_and_read_again(self):
        mixed = random.Random(9)
        for _ in range(200):
            day, rows = mixed.choice([0, -HUGE, -10 ** 12, 10 ** 11, -30]), []
            for _ in range(mixed.randint(0, 6)):
                first = day + mixed.choice([0, 1, 5, 10 ** 12])
                day = first + mixed.choice([1, 2, 10 ** 11])
                value = mixed.choice([mixed.randint(-9, 9), HUGE, "".join(mixed.sample(SIGNS, 5)), "x" * 200])
                rows.append((first, day, value))
            if rows and mixed.random() < 0.5:
                rows[-1] = (rows[-1][0], None, rows[-1][2])
            for ends in slow.ENDS:
                book = Book.from_rows([(first, until and until - (ends != NEXT), value)
                                       for first, until, value in rows], ends)
                text = printed(book)
                self.assertEqual(read_printed(text), book)
                self.assertEqual(read_printed(text).ends, ends)
                lines = text.split("\n")
                lines[1:] = mixed.sample(lines[1:], len(rows))
                self.assertEqual(read_printed("\n".join(lines)), book)

    def test_the_first_line(self):
        for text in ["", " ", "\n", "until is the last day ", " until is the last day", "Until is the last day",
                     "until is the first day", "until  is the last day", "until is the last day\r",
                     "           1            2 3", "last day", "until is the last day.\n           1            2 3"]:
            self.bad(text, 1)
        self.assertEqual(read_printed("until is the next day"), Book(ends=NEXT))

    def test_bad_lines(self):
        good = "           1            2 3"
        self.assertEqual(list(read_printed(f"{FIRST}\n{good}")), [(1, 2, 3)])
        for line in [
                "", " ", good + " ", good + "\r", " " + good, good[1:], good.replace(" 2", "  2"),
                good.replace("  2", " 2"), good.replace(" 3", "  3"), good[:-1], good[:-2], "1 2 3", "1", "1 2",
                good.replace("           1", "          01"), good.replace("           1", "          +1"),
                good.replace("           1", "          -0"), good.replace("           1", "        open"),
                good.replace("           1", "            "), good.replace("           1", "         1.0"),
                good.replace("           1", "         1_0"), good.replace("           1", "           x"),
                good.replace("           1", "         - 1"), good.replace("           1", "          --1"[1:]),
                good.replace("           2", "          02"), good.replace("           2", "          -0"),
                good.replace("           2", "        Open"), good.replace("           2", "        none"),
                good.replace("           2", "            "), good.replace("           2", "           '"),
                good.replace(" 3", " 03"), good.replace(" 3", " -0"), good.replace(" 3", " +3"),
                good.replace(" 3", " x"),
                good.replace(" 3", " open"), good.replace(" 3", " -"), good.replace(" 3", " 3 4"),
                good.replace(" 3", " \"3\""), good.replace(" 3", "  '3"), good.replace(" 3", " '" + "x" * 201),
                good.replace(" 3", " " + "9" * 61), good.replace(" 3", " -" + "9" * 61),
                "9" * 61 + "         open 3", "-" + "9" * 61 + "            2 3", "           1 " + "9" * 61 + " 3",
                "           1 " + "9" * 5000 + " 3", FIRST]:
            self.bad(f"{FIRST}\n{line}", 2)
            self.bad(f"{FIRST}\n{good}\n           4         open 'x\n{line}", 4)

    def test_the_longest_numbers_and_strings(self):
        text = f"{FIRST}\n-{'9' * 60} {'9' * 60} '{'x' * 200}"
        self.assertEqual(list(read_printed(text)), [(-HUGE, HUGE, "x" * 200)])
        text = f"{FIRST}\n           0         open -{'9' * 60}"
        self.assertEqual(list(read_printed(text)), [(0, None, -HUGE)])

    def test_the_first_bad_line_counts(self):
        self.bad(f"{FIRST}\n           5            2 3\n           5            6 3\nx\ny", 4)
        self.bad(f"{FIRST}\n           1            2 3\n", 3)
        self.bad(f"{FIRST}\n", 2)

    def test_what_the_book_raises(self):
        row, other = "           4            6 'a", "           6         open 2"
        hollow = "           5            2 3"
        with self.assertRaises(EmptyRow) as caught:
            read_printed("\n".join([FIRST, other, row, hollow, hollow.replace("2", "1")]))
        self.assertEqual((caught.exception.first, caught.exception.end), (5, 2))
        with self.assertRaises(Clash) as caught:
            read_printed("\n".join([FIRST, other, row]))
        self.assertEqual((caught.exception.earlier, caught.exception.later), ((4, 6, "a"), (6, None, 2)))
        text = "\n".join(["until is the next day", other, row])
        self.assertEqual(list(read_printed(text)), [(4, 6, "a"), (6, None, 2)])
        # Of rows with the same first day the one that stands first is the earlier one.
        with self.assertRaises(Clash) as caught:
            read_printed("\n".join([FIRST, other, other.replace("2", "1")]))
        self.assertEqual((caught.exception.earlier, caught.exception.later), ((6, None, 2), (6, None, 1)))


if __name__ == "__main__":
    unittest.main()
