"""Point 35: readers that are right for a truth, and tables that show it."""

import itertools
import random
import unittest

from falseglim.errors import GlimError
from falseglim.eyes import Eye
from falseglim.makers import either, marked, ring
from falseglim.minds import Mind
from falseglim.orders import Orders
from falseglim.readers import Reader, reader_of, reader_of_mind
from falseglim.rightreaders import RightReader, judge_right
from falseglim.trust import Trust
from falseglim.weathers import eye_of
from falseglim.worlds import World
from tests.helpers import (ODD, SIGNS, error_of, least_ways, listed, rows_to, sight_step, some_eye, some_truth,
                           some_world, standings_behind)
from tests.lookouts import EXAMPLE

LOOP = (0, 0, 0, 0)


def word_of(reader, state):
    return reader.rows[state][0]


def beats(reader, world, eye, place):
    """The places to which true beats lead."""
    return [(sign, (later, reader.rows[place[1]][1][SIGNS.index(sign)])) for sign, later in sight_step(world, eye, place[0])]


def told_right(reader, world, eye, most=5):
    """The table and the breach by the words of the document; breaches by going through looks of up to so many signs."""
    for look in rows_to(most):
        said = reader(look)
        if said is not None and said[1] == len(look):
            wrong = [standing for standing in standings_behind(world, eye, look) if world.marks[standing[0]] != said[0]]
            if wrong:
                return None, (look, said[0], min(wrong))

    def follow(place):
        return [(sign, later) for sign, later in beats(reader, world, eye, place) if not word_of(reader, later[1])]

    firsts = [((state, 0), 0) for state in world.begins if not word_of(reader, 0)]
    return tuple(least_ways(firsts, follow)), None


def careful_reader(world, eye, seed):
    """A reader that says what is so wherever it can, made of a mind that supposes the truth; perhaps a bit wrong."""
    chance = random.Random(seed)
    try:
        rows = list(reader_of_mind(Mind(world, eye)).rows)
    except GlimError:
        return None
    if seed % 2:
        number = chance.randrange(len(rows))
        rows[number] = (chance.choice(("", "a", "b")), rows[number][1])
    return Reader(rows)


def chain(many, word=""):
    """A reader that says nothing for so many states, and then a word if it is told."""
    rows = [("", (min(number + 1, many - 1),) * 4) for number in range(many)]
    return Reader(rows if not word else rows[:-1] + [(word, (0,) * 4)])


def circle(many):
    return Reader([("", ((number + 1) % many,) * 4) for number in range(many)])


class TestRightReader(unittest.TestCase):
    def setUp(self):
        self.world, self.eye = either(ring("w..", "a"), ring("w...", "b")), Eye.fair()
        self.reader = reader_of_mind(Mind(self.world, self.eye))

    def test_a_reader_that_is_right(self):
        verdict = RightReader(self.reader, self.world, self.eye)
        self.assertIs(verdict.reader, self.reader)
        self.assertIs(verdict.world, self.world)
        self.assertIs(verdict.eye, self.eye)
        self.assertIs(bool(verdict), True)
        self.assertIsNone(verdict.breach)
        self.assertEqual(verdict.table, told_right(self.reader, self.world, self.eye)[0])
        self.assertEqual(verdict.table[:7], tuple(((state, 0), 0) for state in range(7)))
        self.assertEqual((len(verdict), tuple(verdict)), (len(verdict.table), verdict.table))

    def test_a_reader_that_is_not(self):
        verdict = RightReader(self.reader, ring("w....", "c"), self.eye)
        self.assertIs(bool(verdict), False)
        # Behind three dark beats it says b: the look leads to the standings of the states 4 and 0.
        self.assertEqual(verdict.breach, ("...", "b", (0, 0)))
        self.assertIsNone(verdict.table)
        self.assertEqual((len(verdict), list(verdict)), (0, []))

    def test_the_moment_when_it_says_it(self):
        # The mark is another one behind the next beat; that does not matter.
        world = World("wg", [(1,), (0,)], (0,), ("a", "b"))
        green = Reader((("", (0, 1, 0, 0)), ("a", LOOP)))
        self.assertIs(bool(RightReader(green, world, Eye.fair())), True)
        self.assertEqual(RightReader(Reader((("", (0, 0, 0, 1)), ("a", LOOP))), world, Eye.fair()).breach, ("w", "a", (1, 0)))
        # What is seen behind the word does not matter either.
        self.assertEqual(RightReader(green, world, Eye.fair()).table, (((0, 0), 0), ((1, 0), 0)))

    def test_the_least_standing(self):
        world = World("www", [(0, 1, 2)] * 3, (0, 1, 2), ("a", "b", "c"))
        for word, state in (("a", 1), ("b", 0), ("x", 0)):
            reader = Reader((("", (1, 1, 1, 1)), (word, LOOP)))
            self.assertEqual(RightReader(reader, world, Eye.fair()).breach, ("w", word, (state, 0)))
            self.assertEqual(RightReader(Reader(((word, LOOP),)), world, Eye.fair()).breach, ("", word, (state, 0)))

    def test_a_word_at_the_state_0(self):
        reader = Reader((("a", LOOP),))
        verdict = RightReader(reader, ring("w.", "a"), Eye.fair())
        self.assertIs(bool(verdict), True)
        self.assertEqual((verdict.table, verdict.breach, len(verdict)), ((), None, 0))
        self.assertEqual(RightReader(reader, either(ring("w", "a"), ring("w", "b")), Eye.fair()).breach, ("", "a", (1, 0)))

    def test_where_the_true_mark_is_empty(self):
        world = marked(ring("w.", "a"), "")
        self.assertEqual(RightReader(Reader((("a", LOOP),)), world, Eye.fair()).breach, ("", "a", (0, 0)))
        silent = RightReader(Reader((("", LOOP),)), world, Eye.fair())
        self.assertEqual(silent.table, (((0, 0), 0), ((1, 0), 0)))
        self.assertEqual(RightReader(Reader((("", (0, 0, 0, 1)), ("a", LOOP))), world, Eye.fair()).breach, ("w", "a", (1, 0)))

    def test_against_all_looks(self):
        right, deep = 0, 0
        for seed in range(200):
            world, eye = some_world(seed, 2 + seed % 4), some_eye(seed, 1 + seed % 2, more=seed % 3)
            reader = careful_reader(world, eye, seed)
            if reader is None:
                continue
            table, breach = told_right(reader, world, eye)
            verdict = RightReader(reader, world, eye)
            if breach is None and verdict.breach is not None:
                self.assertGreater(len(verdict.breach[0]), 5)
                continue
            self.assertEqual((verdict.table, verdict.breach), (table, breach))
            self.assertIs(bool(verdict), breach is None)
            right = right + (breach is None and len(table) > 2)
            deep = deep + (breach is not None and len(breach[0]) > 0)
            if breach is None:
                self.assertIsNone(judge_right(reader, world, eye, table))
        self.assertGreater(right, 40)
        self.assertGreater(deep, 10)

    def test_a_mind_that_can_trust_has_a_reader_that_is_right(self):
        count = 0
        for seed in range(80):
            mind, world, eye = some_truth(seed)
            if Trust(mind, world, eye):
                count = count + 1
                self.assertIs(bool(RightReader(reader_of_mind(mind), world, eye)), True)
        self.assertGreater(count, 10)

    def test_orders(self):
        reader = reader_of(Orders(EXAMPLE))
        anna, bell = ring("w.w.w....", "anna"), ring("w.w....", "bell")
        self.assertIs(bool(RightReader(reader, either(anna, bell), Eye.fair())), True)
        self.assertEqual(RightReader(reader, either(bell, anna), eye_of((("lose", 1),))).breach[1], "bell")

    def test_two_thousand_pairs(self):
        free = World("w" * 20, [tuple(range(20))] * 20, tuple(range(20)), ("a",) * 20)
        self.assertEqual(len(RightReader(circle(100), free, Eye.fair())), 2000)
        self.assertEqual(error_of(RightReader, circle(101), free, Eye.fair()), ("TooMany", "night"))
        odd = World("w" * 23, [tuple(range(23))] * 23, tuple(range(23)), ("a",) * 23)
        # 23 times 87 is 2,001.
        self.assertEqual(len(RightReader(circle(86), odd, Eye.fair())), 1978)
        self.assertEqual(error_of(RightReader, circle(87), odd, Eye.fair()), ("TooMany", "night"))

    def test_too_many_whether_right_or_not(self):
        free = World("w" * 20, [tuple(range(20))] * 20, tuple(range(20)), ("a",) * 20)
        rows = [("", (101, number + 1 if number < 100 else 0, 0, number + 1 if number < 100 else 0)) for number in range(101)]
        early = Reader(rows + [("b", (0,) * 4)])
        dim = Eye(Eye.fair().entries + ((0, "w", ".", 0),))
        self.assertEqual(RightReader(early, free, Eye.through("....")).breach, (".", "b", (0, 0)))
        self.assertEqual(error_of(RightReader, early, free, dim), ("TooMany", "night"))
        # Pairs with a word are not counted.
        self.assertEqual(RightReader(chain(101, "b"), free, Eye.fair()).breach, ("w" * 100, "b", (0, 0)))
        self.assertEqual(error_of(RightReader, chain(102, "b"), free, Eye.fair()), ("TooMany", "night"))


class TestJudge(unittest.TestCase):
    def setUp(self):
        self.world, self.eye = either(ring("w..", "a"), ring("w...", "b")), Eye.fair()
        self.reader = reader_of_mind(Mind(self.world, self.eye))
        self.table = RightReader(self.reader, self.world, self.eye).table

    def judge(self, table):
        return judge_right(self.reader, self.world, self.eye, table)

    def test_right_tables(self):
        self.assertIsNone(self.judge(self.table))
        self.assertIsNone(self.judge(listed(self.table)))
        self.assertIsNone(self.judge(self.table[::-1]))
        self.assertIsNone(self.judge(self.table + self.table))

    def test_rows_that_lack(self):
        self.assertEqual(self.judge(()), -1)
        for number, missing in enumerate(self.table):
            left = self.table[:number] + self.table[number + 1:]
            needing = [at for at, row in enumerate(left)
                       if missing in [later for _, later in beats(self.reader, self.world, self.eye, row)]]
            self.assertEqual(self.judge(left), -1 if number < 7 else needing[0])

    def test_rows_of_another_form(self):
        many = len(self.reader)
        for odd in ODD + (((0, 0),), ((0, 0), 0, None), ((0, 0), many), ((0, 0), -1), ((0, 0), True), ((0, 0), "0"),
                          ((0, 0), None), ((7, 0), 0), ((0, 1), 0), ((True, 0), 0), ((0, False), 0), (0, 0), (0, (0, 0)),
                          ((0, 0, 0), 0), ((0, 0), 0.0), {(0, 0): 0}, ((-1, 0), 0), (None, 0), ("00", 0)):
            self.assertEqual(self.judge(self.table + (odd,)), len(self.table))
            self.assertEqual(self.judge((odd,) + self.table), 0)
            self.assertEqual(self.judge((odd,) + self.table[1:]), -1)

    def test_all_places(self):
        # Each place is judged, whether or not a look leads there.
        found = set()
        for row in itertools.product([(state, 0) for state in range(7)], range(len(self.reader))):
            known = self.table + (row,)
            good = not word_of(self.reader, row[1]) and all(
                word_of(self.reader, later[1]) == self.world.marks[later[0][0]] if word_of(self.reader, later[1])
                else later in known for _, later in beats(self.reader, self.world, self.eye, row))
            self.assertEqual(self.judge(known), None if good else len(self.table))
            found.add(good)
        self.assertEqual(found, {True, False})

    def test_a_word_at_the_state_0(self):
        said = Reader((("a", LOOP),))
        self.assertIsNone(judge_right(said, ring("w.", "a"), Eye.fair(), ()))
        self.assertEqual(judge_right(said, ring("w.", "a"), Eye.fair(), (((0, 0), 0),)), 0)
        both = either(ring("w", "a"), ring("w", "b"))
        self.assertEqual(judge_right(said, both, Eye.fair(), ()), -1)
        self.assertEqual(judge_right(said, both, Eye.fair(), (((0, 0), 0),)), -1)
        self.assertEqual(judge_right(said, both, Eye.fair(), (((1, 0), 0),)), 0)

    def test_where_the_true_mark_is_empty(self):
        # A state without a word does not say the empty mark.
        world, silent = marked(ring("w.", "a"), ""), Reader((("", LOOP),))
        self.assertEqual(judge_right(silent, world, Eye.fair(), ()), -1)
        self.assertEqual(judge_right(silent, world, Eye.fair(), (((0, 0), 0),)), -1)
        self.assertIsNone(judge_right(silent, world, Eye.fair(), (((0, 0), 0), ((1, 0), 0))))
        one = marked(ring("w.", "a", 0), "")
        self.assertEqual(judge_right(silent, one, Eye.fair(), (((0, 0), 0),)), 0)
        self.assertEqual(judge_right(Reader((("", (0, 0, 0, 1)), ("a", LOOP))), one, Eye.fair(), (((0, 0), 0),)), 0)

    def test_no_table_is_right_where_there_is_a_breach(self):
        world, reader = ring("w.", "b", 0), Reader((("", (0, 0, 0, 1)), ("", (2, 1, 1, 1)), ("a", LOOP)))
        self.assertEqual(RightReader(reader, world, Eye.fair()).breach, ("w.", "a", (0, 0)))
        rows = [((state, 0), number) for state in (0, 1) for number in range(3)]
        for chosen in range(64):
            table = tuple(row for number, row in enumerate(rows) if chosen >> number & 1)
            self.assertIsNotNone(judge_right(reader, world, Eye.fair(), table))


if __name__ == "__main__":
    unittest.main()
