"""Point 40: questions up to the limit are answered in some seconds each."""

import itertools
import random
import time
import unittest

import slow
from untilrows.faults import enough
from untilrows.handlers import Handler, turned
from untilrows.mends import mends
from untilrows.operations import Operation, operation
from untilrows.pieces import pieces
from untilrows.verdicts import alike, judge, widest
from untilrows.weaves import holds, judge_weave

LIMIT = 48
# A question takes less than a second where this was written.
SECONDS = 20

# The same statement under the sign of a test and under the other one does what it does without the test.
OPPOSITE = {"<": ">=", "<=": ">", ">": "<=", ">=": "<"}


def number_of_tests(text):
    return sum(0 if line.startswith("add") else line.count(" and ") + 1 - line.count(" and until = ")
               for line in text.split("\n"))


def parted_in_two(line, test, other):
    """Return the statement twice, with one of the two tests each."""
    guard = ""
    for word in (" if ", " unless "):
        if word in line:
            line, flag = line.split(word)
            guard = word + flag
    return [f"{line} and {test}{guard}", f"{line} and {other}{guard}"]


def padded(text, two_days, limit, mixed, most_heads=2):
    """Return a handler that does the same with more tests and, if it has too few, more head lines."""
    days = ["d", "e"] if two_days else ["d"]
    for _ in range(60):
        lines = text.split("\n")
        heads = [line for line in lines if line.startswith(("read", "flag"))]
        rest = lines[len(heads):]
        place = mixed.randrange(len(rest))
        sign = mixed.choice(list(OPPOSITE))
        term = f"{mixed.choice(days)} {mixed.choice('+-')} {mixed.randint(1, 90)}"
        is_guarded = " if " in rest[place] or " unless " in rest[place]
        if len(heads) < most_heads and mixed.random() < 0.5 and not is_guarded:
            name = "ab" if len(heads) == 0 else "cd"
            head = f"flag {name} = {mixed.choice(['first', 'until'])} {sign} {term}"
            found = [*heads, head, *rest[:place], f"{rest[place]} if {name}", f"{rest[place]} unless {name}",
                     *rest[place + 1:]]
        elif rest[place].startswith("add"):
            continue
        else:
            both = parted_in_two(rest[place], f"first {sign} {term}", f"first {OPPOSITE[sign]} {term}")
            if "first = " in rest[place].split("where")[0]:
                both = parted_in_two(rest[place], f"until {sign} {term} or empty", f"until {OPPOSITE[sign]} {term}")
            found = [*heads, *rest[:place], *both, *rest[place + 1:]]
        told = "\n".join(found)
        if len(found) - len([line for line in found if line.startswith(("read", "flag"))]) > 8:
            continue
        if number_of_tests(told) <= limit and max(line.count(" and ") for line in found) < 3:
            text = told
    return text


class LimitCase(unittest.TestCase):
    def setUp(self):
        self.began = time.perf_counter()

    def in_time(self, *told):
        """Check that the question asked since the last one took no longer than it may."""
        now = time.perf_counter()
        self.assertLess(now - self.began, SECONDS, told)
        self.began = time.perf_counter()


class JudgeTest(LimitCase):
    def test_right_handlers_with_many_tests(self):
        mixed = random.Random(1)
        for word, shape, _ in itertools.product(Operation.WORDS, slow.SHAPES, range(3)):
            work = operation(word)
            heads = slow.RIGHT[word].count("read ")
            number = 1 + work.named + mixed.randint(heads, 2)
            rows = {"apart": number, "solid": 2 * number - 1, "lasting": 2 * number}[shape]
            text = padded(slow.RIGHT[word], work.two_days, LIMIT // rows, mixed)
            handler = turned(Handler.read(text), mixed.choice(slow.ENDS))
            self.began = time.perf_counter()
            verdict = judge(handler, work, shape=shape)
            self.in_time(text, word, shape)
            self.assertLessEqual(verdict.count or 0, enough(handler, work, shape))

    def test_any_handlers(self):
        mixed = random.Random(2)
        for word, shape, per in itertools.product(Operation.WORDS, slow.SHAPES, [1, 2, 3]):
            work = operation(word)
            number = {"apart": 1, "solid": 2, "lasting": 2}[shape] * (1 + work.named)
            text = slow.any_handler(mixed, max(1, min(8, LIMIT // number // per)), per, work.two_days, 3)
            self.began = time.perf_counter()
            judge(Handler.read(text), work, shape=shape)
            self.in_time(text, word, shape)

    def test_two_heads_two_days_and_ten_rows(self):
        texts = ["flag late = first > d\nflag done = until is empty\nset until = e - 1 where until = d - 1 if late\n"
                 "set until = e - 1 where until = d - 1 unless late\nset first = e where first = d",
                 "read last = greatest until where until < d\nread begin = least first where first >= d\n"
                 "set until = e - 1 where until = last\nset first = e where first = begin"]
        for text in texts:
            for ends in slow.ENDS:
                handler = turned(Handler.read(text), ends)
                self.assertEqual(enough(handler, operation("move"), "lasting"), 10)
                self.assertTrue(judge(handler, operation("move"), shape="lasting"))
                self.assertEqual(widest(handler, operation("move")), "apart")
                self.in_time(text)


class AlikeTest(LimitCase):
    def test_a_handler_and_itself(self):
        mixed = random.Random(3)
        for by, two_days, (number, per, shape) in itertools.product(
                ["days", "rows"], [False, True], [(8, 3, "apart"), (8, 3, "solid"), (4, 3, "lasting"),
                                                  (8, 1, "lasting"), (6, 2, "lasting")]):
            text = slow.any_handler(mixed, number, per, two_days, 4)
            self.began = time.perf_counter()
            self.assertTrue(alike(Handler.read(text), Handler.read(text), shape=shape, by=by, two_days=two_days))
            self.in_time(text, shape, by)

    def test_handlers_that_do_the_same_in_two_ways(self):
        mixed = random.Random(4)
        for word, by, shape in itertools.product(slow.RIGHT, ["days", "rows"], slow.SHAPES):
            two_days = operation(word).two_days
            rows = {"apart": 3, "solid": 5, "lasting": 6}[shape]
            other = padded(slow.RIGHT[word], two_days, LIMIT // rows - number_of_tests(slow.RIGHT[word]), mixed)
            one, other = Handler.read(slow.RIGHT[word]), Handler.read(other)
            if one.heads + other.heads <= 2:
                self.began = time.perf_counter()
                alike(one, other, shape=shape, by=by, two_days=two_days)
                self.in_time(str(other), shape, by)


class PiecesTest(LimitCase):
    def test_six_rows_and_eight_tests(self):
        mixed = random.Random(5)
        for shape, two_days, (number, per) in itertools.product(slow.SHAPES, [False, True], [(8, 1), (4, 2)]):
            text = slow.any_handler(mixed, number, per, two_days, 1)
            self.began = time.perf_counter()
            self.assertTrue(pieces(Handler.read(text), 6, shape=shape, open_last=True, two_days=two_days))
            self.in_time(text, shape)

    def test_two_heads(self):
        text = ("read near = least first where first > d and first < e\n"
                "read last = greatest until where until < near and until > d\n"
                "set until = near - 1 where until >= d and first < near\ncopy first = last where until = last\n"
                "drop where first > e\nadd from d until e")
        for shape in slow.SHAPES:
            self.assertTrue(pieces(Handler.read(text), 6, shape=shape, open_last=True, two_days=True))
            self.in_time(text, shape)


class WeaveTest(LimitCase):
    def test_twenty_four_tests(self):
        mixed = random.Random(6)
        for number, per in itertools.product([(8, 8), (4, 4), (2, 6)], [1, 2, 3]):
            if sum(number) * per > LIMIT // 2:
                continue
            for _ in range(4):
                one, other = [Handler.read(slow.any_handler(mixed, lines, per, False, 2)) for lines in number]
                turns = "".join(mixed.sample("1" * number[0] + "2" * number[1], sum(number)))
                self.began = time.perf_counter()
                judge_weave(one, other, turns)
                self.in_time(str(one), str(other), turns)

    def test_right_handlers_in_turn(self):
        mixed = random.Random(7)
        for one, other in itertools.product(["set", "end", "take"], repeat=2):
            pair = [Handler.read(padded(slow.RIGHT[word], False, LIMIT // 4, mixed, 0)) for word in (one, other)]
            turns = "".join(mixed.sample("1" * len(pair[0].lines) + "2" * len(pair[1].lines),
                                         len(pair[0].lines) + len(pair[1].lines)))
            self.began = time.perf_counter()
            judge_weave(*pair, turns)
            self.in_time(one, other, turns)

    def test_holds(self):
        mixed = random.Random(8)
        for _ in range(12):
            one, other = [Handler.read(slow.any_handler(mixed, 3, 3, False, mixed.randint(0, 2))) for _ in "12"]
            self.began = time.perf_counter()
            self.assertTrue(holds(one, other))
            self.in_time(str(one), str(other))


class MendsTest(LimitCase):
    def test_five_changes(self):
        mixed = random.Random(9)
        for word, shape in itertools.product(Operation.WORDS, slow.SHAPES):
            work = operation(word)
            number = 1 + work.named + slow.RIGHT[word].count("read ")
            rows = {"apart": number, "solid": 2 * number - 1, "lasting": 2 * number}[shape]
            text = padded(slow.RIGHT[word], work.two_days, LIMIT // rows, mixed, 0)
            lines = text.split("\n")
            # Every line is wrong at first, so that all sets of changes are looked at.
            pool = [(number, line) for number, line in enumerate(lines, start=1)][-5:]
            wrong = "\n".join([*lines[:-len(pool)], *["drop where first = d" for _ in pool]])
            self.began = time.perf_counter()
            self.assertLessEqual(len(mends(Handler.read(wrong), work, *pool, shape=shape)), 32)
            self.in_time(text, word, shape)


if __name__ == "__main__":
    unittest.main()
