"""Points 33 to 35: calls whose lines take turns."""

import inspect
import itertools
import random
import unittest

import naive
import slow
from untilrows import weaves as module
from untilrows.books import Book
from untilrows.errors import BadTurns, HasHeads, NoDay, OtherEnds, TooMany
from untilrows.faults import shown
from untilrows.handlers import Call, Handler, turned
from untilrows.rows import Ends
from untilrows.weaves import WeaveVerdict, holds, judge_weave, weave, weaves

LAST, NEXT = Ends.LAST_DAY, Ends.NEXT_DAY
HEADED = "flag some = first > d\ndrop where first > d if some"

# The usual handler that closes the open row and opens a new one.
USUAL = "set until = d - 1 where until is empty\nadd from d until empty"

TEXTS = [
    USUAL, slow.RIGHT["set"], slow.RIGHT["end"], slow.RIGHT["take"],
    "copy first = d where first < d and until >= d or empty\nset until = d - 1 where first < d and until >= d or empty",
    "set until = d - 1 where first < d and until >= d or empty\nadd from d until d",
    "drop where first = d\nadd from d until d + 1", "drop where first >= d", "add from d until d + 2",
    "set first = d where first < d and until > d\nset until = d where until is empty",
    "add from e until empty\nadd from d until empty",
    "set first = until - 1 where first > d\nset until = first + 2 where until is empty",
    "copy until = d where until > d or empty\nset first = until where first < d\ndrop where until < d",
]


def naive_weave(rows, one, other, turns):
    """Return the rows that two calls (text, d, e, value) leave in turn, or the number of the line that fails."""
    rows = list(rows)
    done = {"1": 0, "2": 0}
    for turn in turns:
        text, d, e, value = one if turn == "1" else other
        done[turn] += 1
        try:
            rows = naive.run_line(text.split("\n")[done[turn] - 1], rows, {"d": d, "e": e}, value)
        except LookupError:
            return done[turn]
    return rows


def orders(one, other):
    ones, others = len(one.split("\n")), len(other.split("\n"))
    return "1" * ones + "2" * others, "2" * others + "1" * ones


def is_sound(book, one, other, turns):
    """Return True if the weave of the two calls is sound on the book."""
    found = [naive_weave(book, one, other, order) for order in (*orders(one[0], other[0]), turns)]
    if isinstance(found[0], int) or isinstance(found[1], int):
        return True
    if isinstance(found[2], int):
        return False
    borders = [day for rows in found for first, until, _ in rows for day in (first, until) if day is not None]
    for day in {day + step for day in borders for step in (-1, 0, 1)}:
        first, second, woven = [sorted(shown(rows, day, book.ends)) for rows in found]
        if woven not in (first, second):
            return False
    return True


class InterfaceTest(unittest.TestCase):
    def test_what_is_listed_is_defined_where_it_is_listed(self):
        for found in [weave, weaves, WeaveVerdict, judge_weave, holds]:
            self.assertEqual(found.__module__, "untilrows.weaves")
            self.assertIs(getattr(module, found.__name__), found)
        self.assertIn("__bool__", vars(WeaveVerdict))
        self.assertTrue(inspect.isgeneratorfunction(weaves))

    def test_arguments_by_their_names(self):
        one = Handler.read(USUAL)
        book = Book((1, None, 1))
        self.assertEqual(weave(turns="1122", other=Call(one, 5), one=Call(one, 3, value=7), book=book),
                         [(1, 2, 1), (3, 4, 7), (5, None, 0)])
        self.assertEqual(list(weaves(other=one, one=one))[0], "1122")
        self.assertTrue(judge_weave(turns="1122", other=one, one=one))
        self.assertEqual(holds(other=one, one=one), [((1, 1), (2, 1))])


class WeaveTest(unittest.TestCase):
    def test_lines_take_turns_on_one_list(self):
        book = Book((1, None, "a"))
        one, other = Call(Handler.read(USUAL), 5, None, "b"), Call(Handler.read(USUAL), 9, None, "c")
        self.assertEqual(weave(book, one, other, "1122"), [(1, 4, "a"), (5, 8, "b"), (9, None, "c")])
        self.assertEqual(weave(book, one, other, "2211"), [(1, 8, "a"), (9, 4, "c"), (5, None, "b")])
        self.assertEqual(weave(book, one, other, "1212"), [(1, 4, "a"), (5, None, "b"), (9, None, "c")])
        self.assertEqual(weave(book, one, other, "2121"), [(1, 8, "a"), (9, None, "c"), (5, None, "b")])
        self.assertEqual(list(book), [(1, None, "a")])

    def test_compared_with_a_slow_model(self):
        mixed = random.Random(1)
        for one, other in itertools.product(TEXTS, TEXTS):
            for ends in slow.ENDS:
                pair = [str(turned(Handler.read(text), ends)) for text in (one, other)]
                handlers = [Handler.read(text, ends) for text in pair]
                for turns in slow.some(list(weaves(*handlers)), 3, 2):
                    book = mixed.choice(slow.books(mixed.randint(0, 3), "apart", ends, 5))
                    told = [(text, mixed.randint(-1, 6), mixed.choice([None, 2, 4]), value)
                            for text, value in zip(pair, ["x", -1])]
                    expected = naive_weave(book, *told, turns)
                    calls = [Call(handler, *call[1:]) for handler, call in zip(handlers, told)]
                    before = list(book)
                    if isinstance(expected, int):
                        with self.assertRaises(NoDay) as caught:
                            weave(book, *calls, turns)
                        self.assertEqual(caught.exception.number, expected)
                    else:
                        self.assertEqual(weave(book, *calls, turns), expected, (told, turns, list(book)))
                    self.assertEqual(list(book), before)

    def test_the_list_is_new(self):
        handler = Handler.read("drop where first = d")
        book = Book((1, 2, 3))
        weave(book, Call(handler, 9), Call(handler, 9), "12").append(5)
        self.assertEqual(weave(book, Call(handler, 9), Call(handler, 9), "12"), [(1, 2, 3)])

    def test_a_line_that_fails(self):
        fine, fails = Handler.read(USUAL), Handler.read("drop where first > d\nadd from e until empty")
        book = Book((1, None, "a"))
        for one, other, turns in [(fine, fails, "2211"), (fine, fails, "1122"), (fails, fine, "2121")]:
            with self.assertRaises(NoDay) as caught:
                weave(book, Call(one, 5), Call(other, 5), turns)
            self.assertEqual(caught.exception.number, 2)
        self.assertEqual(weave(book, Call(fails, 5, 7), Call(fine, 5), "1122"), [(1, 4, "a"), (7, 4, 0), (5, None, 0)])
        # The second line gives a row no first day only if the other call has opened it before.
        opens, moves = Handler.read("set until = empty where first = d"), Handler.read(
            "drop where first < d\nset first = until where first = d")
        self.assertEqual(weave(Book((3, 4, 1)), Call(opens, 3), Call(moves, 3), "221"), [(4, 4, 1)])
        with self.assertRaises(NoDay) as caught:
            weave(Book((3, 4, 1)), Call(opens, 3), Call(moves, 3), "212")
        self.assertEqual(caught.exception.number, 2)

    def test_errors_in_their_order(self):
        book = Book((1, None, "a"))
        fine, headed = Handler.read("drop where first = d"), Handler.read(HEADED)
        fails = Handler.read("add from e until d")
        far, far_headed = Handler.read("drop where first = d", NEXT), Handler.read(HEADED, NEXT)
        for pair in [(far, fine), (fine, far), (far_headed, headed), (headed, far)]:
            with self.assertRaises(OtherEnds) as caught:
                weave(book, *[Call(handler, 1) for handler in pair], "x")
            self.assertEqual(caught.exception.ends, LAST)
        for pair in [(headed, fine), (fine, headed), (headed, headed)]:
            with self.assertRaises(HasHeads):
                weave(book, *[Call(handler, 1) for handler in pair], "x")
        for turns in ["", "1", "2", "11", "112", "122", "1 2", "12 ", "12\n", "21x", "3", "012"]:
            with self.assertRaises(BadTurns) as caught:
                weave(book, Call(fails, 1), Call(fails, 1), turns)
            self.assertEqual(caught.exception.turns, turns)
        with self.assertRaises(NoDay):
            weave(book, Call(fails, 1), Call(fine, 1), "21")


class WeavesTest(unittest.TestCase):
    def test_all_turns(self):
        for ones, others in itertools.product(range(1, 6), range(1, 6)):
            one, other = [Handler.read("\n".join(["add from d until d"] * number)) for number in (ones, others)]
            expected = sorted(set(map("".join, itertools.permutations("1" * ones + "2" * others)))
                              ) if ones + others < 8 else None
            found = list(weaves(one, other))
            if expected is not None:
                self.assertEqual(found, expected)
            self.assertEqual(found, sorted(set(found)))
            self.assertEqual(len(found), len(list(itertools.combinations(range(ones + others), ones))))
            for turns in found:
                self.assertEqual((turns.count("1"), turns.count("2"), len(turns)), (ones, others, ones + others))

    def test_head_lines_count_and_ends_do_not_matter(self):
        one = Handler.read("flag some = first > d")
        other = Handler.read("read near = least first where first > d\nadd from near until empty", NEXT)
        self.assertEqual(list(weaves(one, other)), ["122", "212", "221"])

    def test_many_lines(self):
        text = "\n".join(["flag some = first > d", "flag more = first > d"] + ["add from d until d"] * 8)
        turns = weaves(Handler.read(text), Handler.read(text))
        self.assertEqual([next(turns) for _ in range(3)],
                         ["1" * 10 + "2" * 10, "1" * 9 + "21" + "2" * 9, "1" * 9 + "221" + "2" * 8])


class JudgeWeaveTest(unittest.TestCase):
    def check(self, one, other, turns, ends=LAST, width=5, most=30):
        """Compare the verdict with a slow walk over small books; return the number of rows, or None."""
        one, other = turned(Handler.read(one), ends), turned(Handler.read(other), ends)
        verdict = judge_weave(one, other, turns)
        told = (str(one), str(other), turns, ends)
        self.assertIs(bool(verdict), verdict.holds)
        counts = range(3)
        if verdict.holds:
            self.assertIs(verdict.holds, True)
            self.assertEqual([verdict.count, verdict.book, verdict.d_one, verdict.d_other], [None] * 4)
        else:
            self.assertIs(verdict.holds, False)
            self.assertIsInstance(verdict.book, Book)
            self.assertEqual(verdict.book.ends, ends)
            self.assertLessEqual(verdict.count, 2)
            self.assertEqual([value for _, _, value in verdict.book], list(range(1, verdict.count + 1)))
            self.assertFalse(self.sound(told, verdict.book, verdict.d_one, verdict.d_other), told)
            counts = range(verdict.count)
        for count in counts:
            for book in slow.some(slow.books(count, "apart", ends, width), most, count):
                for d_one, d_other in slow.calls(width, True):
                    self.assertTrue(self.sound(told, book, d_one, d_other), (told, list(book), d_one, d_other))
        return verdict.count

    def sound(self, told, book, d_one, d_other):
        return is_sound(book, (told[0], d_one, None, 0), (told[1], d_other, None, -1), told[2])

    def test_both_orders_are_sound(self):
        for one, other in itertools.product(TEXTS, TEXTS):
            for turns in orders(one, other):
                self.assertTrue(judge_weave(Handler.read(one), Handler.read(other), turns), (one, other))

    def test_handlers_of_one_line_each(self):
        lines = [line for text in TEXTS for line in text.split("\n")]
        for one, other in itertools.product(lines, lines):
            for turns in ("12", "21"):
                self.assertTrue(judge_weave(Handler.read(one), Handler.read(other), turns))

    def test_the_usual_handler_twice(self):
        for ends in slow.ENDS:
            for turns, count in [("1122", None), ("1212", 0), ("1221", 0), ("2112", 0), ("2121", 0), ("2211", None)]:
                self.assertEqual(self.check(USUAL, USUAL, turns, ends), count)

    def test_compared_with_a_slow_walk(self):
        mixed = random.Random(3)
        answers = {}
        for one, other in mixed.sample(list(itertools.product(TEXTS, TEXTS)), 50):
            turns = mixed.choice(list(weaves(Handler.read(one), Handler.read(other))))
            count = self.check(one, other, turns, mixed.choice(slow.ENDS), 4, 8)
            answers[count] = answers.get(count, 0) + 1
        for _ in range(60):
            one, other = [slow.any_handler(mixed, mixed.randint(1, 3), mixed.randint(1, 2), False, 1, 2) for _ in "12"]
            turns = mixed.choice(list(weaves(Handler.read(one), Handler.read(other))))
            count = self.check(one, other, turns, mixed.choice(slow.ENDS), 4, 8)
            answers[count] = answers.get(count, 0) + 1
        for count in (None, 0, 1, 2):
            self.assertIn(count, answers)

    def test_different_days_may_follow_different_orders(self):
        # If both are called on one day, it is as in the first order there, and as in the second one a day later.
        one = "add from d until d\nadd from d + 1 until d + 1"
        other = "drop where first = d\ndrop where first = d + 1"
        self.assertIsNone(self.check(one, other, "1221"))
        self.assertIsNone(self.check(one, other, "2112"))
        rows = naive_weave([], (one, 3, None, 0), (other, 3, None, -1), "1221")
        self.assertEqual(rows, [(4, 4, 0)])
        for order in orders(one, other):
            self.assertNotEqual(naive_weave([], (one, 3, None, 0), (other, 3, None, -1), order), rows)

    def test_two_rows_are_told(self):
        mixed = random.Random(8)
        found = 0
        while found < 6:
            one, other = [slow.any_handler(mixed, 2, 1, False, 1, 1) for _ in "12"]
            turns = mixed.choice(["1212", "1221", "2112", "2121"])
            if judge_weave(Handler.read(one), Handler.read(other), turns).count == 2:
                found += 1
                for ends in slow.ENDS:
                    self.assertEqual(self.check(one, other, turns, ends, 6, 40), 2)

    def test_a_line_that_may_fail(self):
        # Both orders fail on an open row, so nothing is unsound there.
        fails = "set first = until where until is empty\ndrop where first = d"
        for turns in ("1212", "2112"):
            self.assertIsNone(self.check(fails, fails, turns))
        # One order fails at each call, so every weave is sound, even one that leaves something else.
        self.assertIsNone(self.check("add from e until empty\nadd from d until empty", USUAL, "1212"))
        # Here only the weave fails.
        opens, moves = "set until = empty where first = d\nset until = d where first = d", (
            "set first = until - 1 where first = d + 1\ndrop where first = d")
        self.check(opens, moves, "1212")
        moves = "drop where first > d\nset first = until where first = d"
        self.assertEqual(self.check(opens, moves, "1221"), 1)
        verdict = judge_weave(Handler.read(opens), Handler.read(moves), "1221")
        row, = verdict.book
        self.assertEqual((row[0], verdict.d_one), (verdict.d_other, verdict.d_other))

    def test_days_far_apart(self):
        one = "set until = d + 1000000000 where first = d\nset until = d where first = d"
        other = "drop where until > d + 999999999\ndrop where until < d - 1000000000"
        count = judge_weave(Handler.read(one), Handler.read(other), "1221").count
        self.assertEqual(count, 1)

    def test_errors_in_their_order(self):
        fine, headed = Handler.read("drop where first = d"), Handler.read(HEADED)
        for one, other in [(fine, Handler.read(HEADED, NEXT)), (headed, Handler.read("drop where first = d", NEXT))]:
            for pair in [(one, other), (other, one)]:
                with self.assertRaises(OtherEnds) as caught:
                    judge_weave(*pair, "x")
                self.assertEqual(caught.exception.ends, pair[1].ends)
        for pair in [(fine, headed), (headed, fine)]:
            with self.assertRaises(HasHeads):
                judge_weave(*pair, "x")
        for turns in ["", "1", "22", "121", "1 2", "a2"]:
            with self.assertRaises(BadTurns) as caught:
                judge_weave(fine, fine, turns)
            self.assertEqual(caught.exception.turns, turns)


# Handlers whose weaves need several holds, or one of several holds, with the number of the least sets.
HELD = [
    ("set first = d - 1 where first <= d + 1\ndrop where first <= until + 1\nset until = d + 1 where first < d",
     "copy first = d - 1 where first >= d\ndrop where until > d + 1\ndrop where until > until - 1", 1),
    ("set until = first - 1 where first < d + 1\ndrop where until < first",
     "drop where until < until + 1\ncopy until = d where first >= until + 1", 2),
    ("set until = first + 1 where until <= first + 1\nset first = d - 1 where until >= until",
     "set until = d where first <= until\ncopy first = d - 1 where first <= d + 1\nset until = d where first <= d", 2),
    ("set until = first + 1 where first <= d - 1\nset until = first where first <= until + 1\n"
     "drop where until > first + 1",
     "copy first = d - 1 where until <= until + 1\n"
     "set first = d - 1 and until = until + 1 where until < until + 1\nset until = first where until >= d", 2),
    ("drop where first <= until + 1\ncopy first = d - 1 where first < d + 1\ndrop where first <= d - 1",
     "set first = d + 1 and until = first where first > first - 1\nset first = d + 1 where first < until", 3),
]


class HoldsTest(unittest.TestCase):
    def expected(self, one, other):
        """Return the least sets of holds by trying all sets on all weaves."""
        one, other = Handler.read(one), Handler.read(other)
        sound = {turns: bool(judge_weave(one, other, turns)) for turns in weaves(one, other)}
        every = [(1, line) for line in range(1, len(one.lines))] + [(2, line) for line in range(1, len(other.lines))]
        for size in range(len(every) + 1):
            found = [chosen for chosen in itertools.combinations(every, size)
                     if all(sound[turns] for turns in sound if all(self.respects(turns, hold) for hold in chosen))]
            if found:
                return found
        return []

    def respects(self, turns, hold):
        who, line = hold
        places = [place for place, turn in enumerate(turns) if int(turn) == who]
        return places[line] - places[line - 1] == 1

    def test_the_usual_handler(self):
        one = Handler.read(USUAL)
        self.assertEqual(holds(one, one), [((1, 1), (2, 1))])
        self.assertEqual(holds(one, Handler.read("add from d until d")), [()])

    def test_all_weaves_are_sound(self):
        one = Handler.read("drop where first = d\ndrop where first = d + 1\ndrop where until = d")
        self.assertEqual(holds(one, one), [()])
        self.assertEqual(holds(one, Handler.read("drop where first > d")), [()])

    def test_compared_with_all_sets(self):
        mixed = random.Random(2)
        answers = []
        pairs = [pair for pair in itertools.product(TEXTS, TEXTS)]
        pairs += [[slow.any_handler(mixed, mixed.randint(2, 3), 1, False, 1, 1) for _ in "12"] for _ in range(60)]
        for one, other in mixed.sample(pairs, 110):
            found = holds(Handler.read(one), Handler.read(other))
            self.assertEqual(found, self.expected(one, other), (one, other))
            answers.append((len(found), len(found[0])))
        for size in (0, 1, 2):
            self.assertIn(size, [held for _, held in answers])

    def test_several_least_sets(self):
        for one, other, number in HELD:
            found = holds(Handler.read(one), Handler.read(other))
            self.assertEqual(found, self.expected(one, other))
            self.assertEqual(len(found), number)
            self.assertEqual(found, sorted(found))
        self.assertEqual(holds(*map(Handler.read, HELD[1][:2])), [((1, 1),), ((2, 1),)])
        self.assertEqual(holds(*map(Handler.read, HELD[2][:2])), [((1, 1), (2, 2)), ((2, 1), (2, 2))])
        self.assertEqual(holds(*map(Handler.read, HELD[0][:2])), [((1, 1), (1, 2), (2, 1), (2, 2))])

    def test_the_kinds(self):
        one = Handler.read(USUAL)
        found = holds(one, one)
        self.assertIs(type(found), list)
        self.assertIs(type(found[0]), tuple)
        self.assertIs(type(found[0][0]), tuple)
        found.clear()
        self.assertEqual(holds(one, one), [((1, 1), (2, 1))])

    def test_errors_in_their_order(self):
        long = "\n".join(["drop where first = d"] * 4)
        headed = HEADED + "\n" + long
        for text in (headed, long):
            with self.assertRaises(OtherEnds) as caught:
                holds(Handler.read(text), Handler.read(long, NEXT))
            self.assertEqual(caught.exception.ends, NEXT)
        for pair in [(headed, long), (long, headed), (HEADED, USUAL)]:
            with self.assertRaises(HasHeads):
                holds(*[Handler.read(text) for text in pair])
        for pair in [(USUAL, long), (long, USUAL), (long, long)]:
            with self.assertRaises(TooMany) as caught:
                holds(*[Handler.read(text) for text in pair])
            self.assertEqual(caught.exception.most, 3)
        three = long.rsplit("\n", 1)[0]
        self.assertEqual(holds(Handler.read(three), Handler.read(three)), [()])


if __name__ == "__main__":
    unittest.main()
