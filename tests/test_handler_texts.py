"""Points 12 to 14: which texts are handlers, and what is told of those that are not."""

import unittest

import naive
from untilrows.errors import BadLine, TooMany
from untilrows.handlers import Call, Handler
from untilrows.rows import Ends

DROP = "drop where first = d"


def fault_in(text):
    """Return what Handler.read says of the text, in the form of naive.fault_in."""
    try:
        Handler.read(text)
    except BadLine as error:
        return "bad", error.number
    except TooMany as error:
        return "many", error.most
    return None


class FaultTest(unittest.TestCase):
    def fine(self, *lines):
        text = "\n".join(lines)
        with self.subTest(text):
            self.assertIsNone(fault_in(text))

    def bad(self, number, *lines):
        text = "\n".join(lines)
        with self.subTest(text):
            self.assertEqual(fault_in(text), ("bad", number))

    def many(self, most, *lines):
        text = "\n".join(lines)
        with self.subTest(text):
            self.assertEqual(fault_in(text), ("many", most))


class LineFormsTest(FaultTest):
    def test_every_form_of_line(self):
        for line in [
            "read low = least first where first < d",
            "read low = greatest until where until is not empty and until <= e - 3 or empty",
            "flag busy = first >= d + 1 and first <= e",
            "flag busy = until is empty",
            "drop where first = d",
            "drop where until is empty and first < d and until > e - 7 or empty",
            "set first = until + 1 where first >= d",
            "set until = d - 1 where until >= d or empty and first < d",
            "set until = empty where until is not empty",
            "set first = e and until = empty where until = first",
            "copy first = e + 1 where until > e",
            "copy until = first - 1000000000 where first > d",
            "copy first = first + 1 and until = until + 1 where until is not empty",
            "add from d until empty",
            "add from e - 1 until d + 20",
        ]:
            self.fine(line)

    def test_head_lines_may_stand_alone_and_may_be_missing(self):
        self.fine("read low = least first where first < d")
        self.fine("flag busy = first = d", "flag other = first = d")
        self.fine(*[DROP] * 8)

    def test_texts_without_words(self):
        self.bad(1, "")
        self.bad(1, " ")
        self.bad(1, "", DROP)
        self.bad(2, DROP, "")
        self.bad(2, DROP, "", DROP)
        self.bad(1, "nothing")

    def test_only_line_feeds_end_a_line(self):
        for sign in ["\r", "\r\n", "\t", "\x0b", "\x0c", "\x1c", "\x1d", "\x1e"]:
            self.bad(1, f"{DROP}{sign}{DROP}")
        self.bad(1, f"{DROP}\r", DROP)

    def test_spaces(self):
        for line in [f" {DROP}", f"{DROP} ", "drop  where first = d", "drop where first =  d", "drop where first=d",
                     "drop where first = d+1", "drop where first = d +1", "drop\twhere first = d", "drop where"]:
            self.bad(1, line)
            self.bad(2, DROP, line)

    def test_capitals_are_other_letters(self):
        for line in ["Drop where first = d", "drop where First = d", "drop where first = D",
                     "flag Busy = first = d", "DROP WHERE FIRST = D"]:
            self.bad(1, line)

    def test_signs(self):
        for sign in ["<", "<=", "=", ">=", ">"]:
            self.fine(f"drop where first {sign} d and until {sign} e or empty")
        for sign in ["==", "=<", "=>", "<>", "!=", "is", "is not", "< =", ""]:
            self.bad(1, f"drop where first {sign} d")

    def test_tests_of_an_empty_until(self):
        self.fine("drop where until is empty")
        self.fine("drop where until is not empty")
        for test in ["first is empty", "first is not empty", "until is", "until is not", "until = empty",
                     "until is empty or empty", "until not empty", "first < d or empty", "until < d or",
                     "until < empty", "until < d or first", "until or empty", "until is d",
                     "until is empty + 1", "until < d or empty or empty", "until < empty or empty"]:
            self.bad(1, f"drop where {test}")

    def test_settings(self):
        for setting in ["first = empty", "until = d and first = d", "first = d and first = e", "until = ",
                        "until = d or empty", "until = d and until = e", "first < d", "first = d and", "", "until",
                        "until is empty", "until = empty + 1", "first = d, until = e", "value = d",
                        "first = empty and until = d", "first = d until = e"]:
            self.bad(1, f"set {setting} where first = d")
            self.bad(1, f"copy {setting} where first = d")
        self.bad(1, "drop until = d where first = d")
        self.bad(1, "set where first = d")
        self.bad(1, "set until = d")
        self.bad(1, "copy until = d first = d")

    def test_adds(self):
        for line in ["add", "add from d", "add until d", "add from d until", "add from empty until d",
                     "add from first until empty", "add from until until empty", "add from d until until",
                     "add from d until first - 1", "add from d until empty where first = d",
                     "add until e from d", "add from d until d and until e", "add from d to e"]:
            self.bad(1, line)

    def test_n(self):
        for number in ["1", "9", "10", "999999999", "1000000000"]:
            self.fine(f"drop where first = d + {number} and until = e - {number}")
        for number in ["0", "00", "01", "-1", "+1", "1000000001", "2000000000", "9999999999", "10000000000", "1_0",
                       "1.0", "x", "", "d", "1e3", "0x1", "9" * 5000]:
            self.bad(1, f"drop where first = d + {number}")
            self.bad(1, f"drop where first = d - {number}")
        for term in ["1", "d + 1 + 1", "d * 2", "1 + d", "d + e", "- d", "d 1", "d +", "+ 1"]:
            self.bad(1, f"drop where first = {term}")

    def test_fields_as_bases(self):
        self.fine("set first = until - 3 and until = first + 3 where first = until and until < first + 2")
        for line in ["flag busy = first = first", "flag busy = until = until", "flag busy = until > first + 1",
                     "flag busy = first < until", "read low = least first where first < until",
                     "read low = least until where until > first"]:
            self.bad(1, line)

    def test_head_lines_keep_to_one_field(self):
        self.fine("flag busy = until < d and until is not empty and until > e or empty")
        self.fine("read low = least until where until is empty and until > d")
        for line in ["flag busy = first < d and until > d", "flag busy = until > d and first < d",
                     "flag busy = first < d and until is empty", "flag busy = first < d and first > e and until = d",
                     "read low = least first where until > d", "read low = least until where first > d",
                     "read low = greatest first where first < d and until is empty",
                     "read low = greatest until where until > d and first < d"]:
            self.bad(1, line)

    def test_head_lines_that_are_not_well_formed(self):
        for line in ["read low least first where first < d", "read low = first where first < d",
                     "read low = most first where first < d", "read low = least value where first < d",
                     "read low = least first", "read low = least first where", "read = least first where first < d",
                     "read low = least d where first < d", "read low = least first where first < d if low",
                     "flag = first < d", "flag busy first < d", "flag busy = where first < d", "flag busy =", "flag",
                     "flag busy = least first where first < d", "flag busy = first < d unless busy", "read",
                     "flag busy is first < d", "flag busy = first < d or empty"]:
            self.bad(1, line)
            self.bad(2, "flag up = first = d", line)

    def test_a_head_line_behind_a_statement(self):
        self.bad(2, DROP, "flag busy = first = d")
        self.bad(2, DROP, "read low = least first where first < d", "")
        self.bad(3, "flag busy = first = d", DROP, "flag other = first = d")

    def test_unknown_kinds_of_lines(self):
        for line in ["keep where first = d", "where first = d", "if busy", "first = d", "delete where first = d"]:
            self.bad(1, line)
            self.bad(2, DROP, line)


class NamesTest(FaultTest):
    def test_names(self):
        for name in ["ab", "dd", "ee", "abcdefghijkl", "zz", "adds", "fir", "untilx", "value", "by"]:
            self.fine(f"flag {name} = first = d", f"{DROP} if {name}")
            self.fine(f"read {name} = least first where first < d", f"drop where first = {name}")
        for name in ["a", "d", "e", "abcdefghijklm", "aB", "a1", "a_b", "a-b", "", "Ab", "ab cd", "a" * 5000]:
            self.bad(1, f"flag {name} = first = d")
            self.bad(1, f"read {name} = least first where first < d")

    def test_no_word_of_the_language_is_a_name(self):
        self.assertEqual(len(naive.RESERVED), 19)
        for name in naive.RESERVED:
            self.bad(1, f"flag {name} = first = d")
            self.bad(1, f"read {name} = least first where first < d")

    def test_a_name_is_given_once(self):
        for first in ["flag one = first = d", "read one = least first where first < d"]:
            for second in ["flag one = until = d", "read one = greatest until where until > d"]:
                self.bad(2, first, second)
                self.fine(first, second.replace("one", "two"))

    def test_a_base_names_a_read_of_a_line_above(self):
        read = "read low = least first where first < d"
        self.fine(read, "drop where first = low + 1")
        self.fine(read, "read next = least first where first > low", "add from low until next - 1")
        self.fine(read, "flag busy = until >= low", "set until = low - 1 where until = low if busy")
        self.bad(1, "drop where first = low")
        self.bad(1, "read low = least first where first < low")
        self.bad(1, "flag busy = first < low", read)
        self.bad(1, "read next = least first where first > low", read)
        self.bad(2, "flag low = first = d", "drop where first = low")
        self.bad(2, "flag low = first = d", "flag next = first = low")

    def test_if_and_unless_name_a_flag_of_a_line_above(self):
        flag = "flag busy = first = d"
        for guard in ["if", "unless"]:
            self.fine(flag, f"{DROP} {guard} busy")
            self.fine(flag, f"set until = empty where first = d {guard} busy")
            self.fine(flag, f"copy until = empty where until > d or empty {guard} busy")
            self.fine(flag, f"add from d until empty {guard} busy")
            self.bad(1, f"{DROP} {guard} busy")
            self.bad(2, "read busy = least first where first < d", f"{DROP} {guard} busy")
            self.bad(2, flag, f"{DROP} {guard}")
            self.bad(2, flag, f"{DROP} {guard} other")
            self.bad(2, flag, f"{DROP} {guard} busy {guard} busy")
            self.bad(2, flag, f"{DROP} {guard} d")
            self.bad(2, flag, f"{DROP} {guard} not busy")
            self.bad(2, flag, f"{guard} busy {DROP}")
            self.bad(2, flag, f"flag other = first = d {guard} busy")
            self.bad(2, flag, f"read other = least first where first = d {guard} busy")
        self.bad(2, flag, f"{DROP} busy")


class LimitsTest(FaultTest):
    FOUR = "first < d and first < d and first < d and first < d"

    def test_three_tests(self):
        self.fine("drop where first < d and first < d and until is empty")
        for line in [f"drop where {self.FOUR}", f"set until = d where {self.FOUR}", f"flag busy = {self.FOUR}",
                     f"copy first = d and until = d where {self.FOUR} and first = d",
                     f"read low = least first where {self.FOUR}"]:
            self.many(3, line)
            self.bad(1, f"{line} and first < x")
            self.bad(1, f"{line} ")
        self.many(3, "set first = d and until = e where first < d and until < d or empty and until is empty "
                     "and first = d")

    def test_an_and_of_a_setting_is_no_test(self):
        self.fine("set first = d and until = e where first < d and first < e and first = d")

    def test_two_head_lines(self):
        flags = [f"flag {name} = first = d" for name in ["one", "two", "three"]]
        self.fine(*flags[:2], DROP)
        self.many(2, *flags)
        self.many(2, *flags, "nothing")
        self.bad(3, *flags[:2], flags[0])
        self.bad(3, *flags[:2], "flag three = first = first")
        self.bad(3, *flags[:2], "nothing")

    def test_eight_statements(self):
        self.fine(*[DROP] * 8)
        self.many(8, *[DROP] * 9)
        self.many(8, *[DROP] * 10)
        self.many(8, *[DROP] * 9, "nothing")
        self.bad(9, *[DROP] * 8, "nothing")
        self.bad(9, *[DROP] * 8, "flag busy = first = d")
        self.fine("flag one = first = d", "flag two = first = d", *[DROP] * 8)
        self.many(8, "flag one = first = d", "flag two = first = d", *[DROP] * 9)

    def test_the_order_of_the_faults_of_a_line(self):
        flags = ["flag one = first = d", "flag two = first = d"]
        self.many(3, *flags, f"flag three = {self.FOUR}")
        self.many(3, *[DROP] * 8, f"drop where {self.FOUR}")
        self.bad(3, *flags, f"flag one = {self.FOUR}")
        self.bad(9, *[DROP] * 8, f"drop where {self.FOUR} if busy")
        self.bad(2, DROP, f"flag one = {self.FOUR}")

    def test_the_first_line_with_any_fault_decides(self):
        self.many(3, f"drop where {self.FOUR}", "nothing")
        self.bad(1, "nothing", f"drop where {self.FOUR}")
        self.many(3, f"drop where {self.FOUR}", *[DROP] * 9)


class ModelTest(unittest.TestCase):
    """All texts that come of small changes of these ones are judged as the patterns of naive judge them."""

    HEADS = ["read low = least first where first <= d", "flag busy = until > d - 1 or empty"]
    LINES = [
        "read top = greatest until where until is not empty and until < low",
        "flag two = first > e - 20",
        "drop where until < first + 1 and first = low unless busy",
        "set first = d + 1 and until = until - 1 where until >= d or empty",
        "set until = empty where first > d if busy",
        "copy first = until where until is empty and first < e",
        "add from d until low - 1 unless busy",
        "add from e until empty",
    ]
    WORDS = [*naive.RESERVED, "d", "e", "low", "busy", "top", "+", "-", "<", "=", "1", "0", "07", ""]

    def changes_of(self, line):
        words = line.split(" ")
        for k in range(len(words) + 1):
            yield words[:k] + words[k + 1:]
            yield words[:k] + words[k - 1:]
            for word in self.WORDS:
                yield words[:k] + [word] + words[k:]
                yield words[:k] + [word] + words[k + 1:]

    def test_small_changes_of_lines(self):
        for line in self.LINES:
            heads = self.HEADS[:1] if line.startswith(("read", "flag")) else self.HEADS
            self.assertIsNone(fault_in("\n".join([*heads, line])))
            for words in self.changes_of(line):
                text = "\n".join([*heads, " ".join(words)])
                if fault_in(text) != naive.fault_in(text):
                    self.assertEqual(fault_in(text), naive.fault_in(text), text)


class HandlerTest(unittest.TestCase):
    TEXT = "read low = least first where first < d\nflag busy = first = low\ndrop where first = low if busy"

    def test_what_is_listed_is_defined_in_the_class_itself(self):
        for name in ["read", "__str__", "__eq__", "__call__"]:
            self.assertIn(name, vars(Handler))
        self.assertIsInstance(vars(Handler)["read"], classmethod)
        self.assertIn("__call__", vars(Call))
        self.assertEqual((Handler.__module__, Call.__module__), ("untilrows.handlers", "untilrows.handlers"))

    def test_lines_text_ends_and_heads(self):
        handler = Handler.read(self.TEXT)
        self.assertEqual(handler.lines, tuple(self.TEXT.split("\n")))
        self.assertIsInstance(handler.lines, tuple)
        self.assertEqual(str(handler), self.TEXT)
        self.assertEqual(handler.ends, Ends.LAST_DAY)
        self.assertEqual(handler.heads, 2)
        self.assertEqual(Handler.read(self.TEXT, Ends.NEXT_DAY).ends, Ends.NEXT_DAY)
        self.assertEqual(Handler.read(self.TEXT, ends=Ends.NEXT_DAY).ends, Ends.NEXT_DAY)

    def test_head_lines_are_counted(self):
        self.assertEqual(Handler.read(DROP).heads, 0)
        self.assertEqual(Handler.read(f"flag busy = first = d\n{DROP}").heads, 1)
        self.assertEqual(Handler.read("flag busy = first = d").heads, 1)
        self.assertEqual(Handler.read("flag busy = first = d").lines, ("flag busy = first = d",))

    def test_handlers_are_equal_if_lines_and_ends_are(self):
        handler = Handler.read(self.TEXT)
        self.assertTrue(handler == Handler.read(self.TEXT))
        self.assertFalse(handler != Handler.read(self.TEXT))
        self.assertTrue(handler != Handler.read(self.TEXT, Ends.NEXT_DAY))
        self.assertTrue(handler != Handler.read(self.TEXT.replace("low", "lo")))
        self.assertTrue(handler != Handler.read(f"{self.TEXT}\n{DROP}"))
        self.assertFalse(handler == self.TEXT)


if __name__ == "__main__":
    unittest.main()
