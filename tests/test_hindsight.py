"""Point 17: what is told back with a delay, and tables that show it."""

import random
import unittest

from falseglim.eyes import Eye
from falseglim.hindsight import Hindsight, judge_hindsight
from falseglim.makers import either, marked, ring
from falseglim.weathers import eye_of
from falseglim.worlds import World
from tests.helpers import (ODD, error_of, greatest_rank, least_back, least_ways, listed, sight_step, some_eye,
                           some_world)


def paired(world, eye):
    """The first pairs of standings, and where a sign leads from a pair."""
    opening = [(state, 0) for state in world.begins]
    known = {}

    def follow(pair):
        if pair not in known:
            known[pair] = sorted({(sign, tuple(sorted((first, second))))
                                  for sign, first in sight_step(world, eye, pair[0])
                                  for seen, second in sight_step(world, eye, pair[1]) if seen == sign})
        return known[pair]

    return [tuple(sorted((first, second))) for first in opening for second in opening], follow


def told_hindsight(world, eye):
    """The delay, the table and the breach, by the words of the document."""
    starts, follow = paired(world, eye)
    looks = least_ways(starts, follow)
    parted = [pair for pair in looks if world.marks[pair[0][0]] != world.marks[pair[1][0]]]
    ranks = {pair: greatest_rank(pair, follow, len(looks)) for pair in looks}
    endless = [pair for pair in parted if ranks[pair] is None]
    if endless:
        pair = endless[0]
        marks = tuple(world.marks[state] for state, _ in pair)
        ways = least_ways([pair], follow)
        nearest = next(later for later in ways if least_back(later, follow) is not None)
        return None, None, (marks, looks[pair], ways[nearest], least_back(nearest, follow))
    led = least_ways(parted, follow)
    table = tuple(pair + (ranks[pair] if pair in led else None,) for pair in looks)
    return max((ranks[pair] + 1 for pair in parted), default=0), table, None


def many_together(more):
    """A world with 1,998 pairs of standings together, and so many more."""
    free = tuple(range(62))
    shows = "w" * 61 + "g" + "r" * 8 + "g" + "." * (more + 1)
    goes = [free] * 61 + [tuple(range(62, 71))] + [(state,) for state in range(62, 70)] + [(71,)]
    goes = goes + [(72 + number,) for number in range(more)] + [(71 + more,)]
    return World(shows, goes, free, ("a",) * len(shows))


class TestHindsight(unittest.TestCase):
    def test_attributes(self):
        world, eye = either(ring("w..", "a"), ring("w...", "b")), Eye.fair()
        verdict = Hindsight(world, eye)
        self.assertIs(verdict.world, world)
        self.assertIs(verdict.eye, eye)
        self.assertIs(bool(verdict), True)
        self.assertIsNone(verdict.breach)
        self.assertEqual(verdict.delay, 6)
        self.assertIsInstance(verdict.table, tuple)
        self.assertEqual((len(verdict), tuple(verdict)), (len(verdict.table), verdict.table))

    def test_the_order_of_the_table(self):
        table = Hindsight(either(ring("w.", "a", 0), ring("wg", "b", 0)), Eye.fair()).table
        self.assertEqual(table, (((0, 0), (0, 0), None), ((0, 0), (2, 0), 1), ((2, 0), (2, 0), None),
                                 ((1, 0), (1, 0), None), ((1, 0), (3, 0), 0), ((3, 0), (3, 0), None)))
        # Those with one least look stand together, ascending: a glow lets a dark beat be seen as what was before.
        table = Hindsight(ring("w.", "a"), eye_of((("late",),))).table
        self.assertEqual(table[:3], (((0, 0), (0, 0), None), ((0, 0), (1, 0), None), ((1, 0), (1, 0), None)))
        self.assertEqual({rank for _, _, rank in table}, {None})

    def test_without_a_parted_pair(self):
        for world in (ring("w..", "a"), marked(either(ring("w..", "a"), ring("g", "b")), "")):
            verdict = Hindsight(world, eye_of((("lose", 2),)))
            self.assertIs(bool(verdict), True)
            self.assertEqual(verdict.delay, 0)
            self.assertEqual({rank for _, _, rank in verdict}, {None})
        # The marks differ, but no look leads to both standings; then they are parted at once.
        split = Hindsight(World("wg", [(1,), (0,)], (0,), ("a", "b")), Eye.fair())
        self.assertEqual((split.delay, split.table), (0, (((0, 0), (0, 0), None), ((1, 0), (1, 0), None))))
        self.assertEqual(Hindsight(World("wg", [(1,), (0,)], (0, 1), ("a", "b")), Eye.fair()).delay, 1)

    def test_breach(self):
        verdict = Hindsight(either(ring("w..", "b"), ring("w..", "a")), Eye.fair())
        self.assertIs(bool(verdict), False)
        self.assertIsNone(verdict.table)
        self.assertIsNone(verdict.delay)
        self.assertEqual((len(verdict), list(verdict)), (0, []))
        # The first parted pair is that of the states 0 and 3; the mark of the lesser standing stands first.
        self.assertEqual(verdict.breach, (("b", "a"), "", "", "w.."))
        late = World("w..g.w", [(1, 2), (3,), (4,), (5,), (4,), (3,)], (0,), ("", "x", "y", "", "", ""))
        self.assertIs(bool(Hindsight(late, Eye.fair())), True)
        blind = Eye.through("....")
        self.assertEqual(Hindsight(late, blind).breach, (("x", "y"), ".", ".", ".."))

    def test_way_and_loop(self):
        # From the parted pair (0, 3) both go on for two beats; then the loop has two beats.
        world = World("w.gw.g", [(1,), (2,), (1,), (4,), (5,), (4,)], (0, 3), ("a", "", "", "b", "", ""))
        self.assertEqual(Hindsight(world, Eye.fair()).breach, (("a", "b"), "", "w", ".g"))

    def test_the_loop_is_that_of_the_first_of_several_pairs(self):
        # The way w leads to the pair of 1 and 3, with a loop of two beats, and to that of 2 and 3, with one of one beat.
        world = World("w.....", [(1, 2), (4,), (2,), (3,), (1,), (3, 5)], (0, 5), ("a", "", "", "", "", "b"))
        blind = Eye.through("....")
        verdict = Hindsight(world, blind)
        self.assertEqual(verdict.breach, told_hindsight(world, blind)[2])
        self.assertEqual(verdict.breach[2:], (".", ".."))

    def test_the_first_pair_can_stand_later_in_the_table(self):
        # The way r leads to (0, 0) with itself and to (1, 0) with itself; the table has the second one earlier.
        goes = ((0,), (1,), (0, 1), (0, 1))
        for begins in ((1, 2, 3), (0, 2, 3), (0, 1, 2, 3)):
            world = World("wgrr", goes, begins, ("a", "a", "a", "b"))
            self.assertEqual(Hindsight(world, Eye.fair()).breach, (("a", "b"), "", "r", "w"))
        turned = World("gwrr", goes, (1, 2, 3), ("a", "a", "a", "b"))
        self.assertEqual(Hindsight(turned, Eye.fair()).breach, (("a", "b"), "", "r", "g"))

    def test_loops_against_a_second_reckoning(self):
        # Among these there are some in which the first of several pairs stands later in the table.
        for seed in (38, 336, 473, 529, 787, 1650, 2380, 2419) + tuple(range(40, 70)):
            world = some_world(seed, 3 + seed % 4, ".wr", marks=("a", "b"))
            eye = some_eye(seed, 1 + seed % 2, more=seed % 3) if seed % 3 else Eye.fair()
            verdict = Hindsight(world, eye)
            self.assertEqual((verdict.delay, verdict.table, verdict.breach), told_hindsight(world, eye), seed)

    def test_against_a_second_reckoning(self):
        told_back, breaches, longest = 0, 0, 0
        for seed in range(200):
            world = some_world(seed, 2 + seed % 4, marks=("a", "b", ""))
            eye = some_eye(seed, 1 + seed % 2, more=seed % 3)
            if seed > 150:
                chance = random.Random(seed)
                rows = ["".join(chance.choice("w.g") for _ in range(chance.randint(2, 4))) for _ in range(2)]
                world = either(ring(rows[0], "a", 0), ring(rows[1], "b"))
                eye = eye_of(chance.choice(((), (("lose", 1),), (("take", "w", "g"),))))
            delay, table, breach = told_hindsight(world, eye)
            verdict = Hindsight(world, eye)
            self.assertEqual((verdict.delay, verdict.table, verdict.breach), (delay, table, breach), seed)
            self.assertIs(bool(verdict), breach is None)
            if breach is None:
                told_back = told_back + (delay > 0)
                longest = max(longest, delay)
                self.assertIsNone(judge_hindsight(world, eye, table))
            else:
                breaches = breaches + (len(breach[1] + breach[2]) > 0)
        self.assertGreater(told_back, 10)
        self.assertGreater(breaches, 10)
        self.assertGreater(longest, 2)

    def test_two_thousand_pairs(self):
        self.assertEqual(len(Hindsight(many_together(0), Eye.fair())), 1999)
        self.assertEqual(len(Hindsight(many_together(1), Eye.fair())), 2000)
        self.assertEqual(error_of(Hindsight, many_together(2), Eye.fair()), ("TooMany", "pair"))
        free = World("w" * 96, [tuple(range(96))] * 96, (0,), ("a",) * 96)
        self.assertEqual(error_of(Hindsight, free, Eye.fair()), ("TooMany", "pair"))
        self.assertEqual(error_of(Hindsight, World("w" * 96, [(state,) for state in range(96)], tuple(range(96)),
                                                   ("a",) * 95 + ("b",)), Eye.fair()), ("TooMany", "pair"))

    def test_long_delays(self):
        # Two rings of one round that part at the last of 24 beats.
        world = either(ring("w" * 23 + ".", "a", 0), ring("w" * 23 + "g", "b", 0))
        self.assertEqual(Hindsight(world, Eye.fair()).delay, 24)


class TestJudge(unittest.TestCase):
    def setUp(self):
        self.world, self.eye = either(ring("w.", "a", 0), ring("wg", "b", 0)), Eye.fair()
        self.table = Hindsight(self.world, self.eye).table

    def judge(self, table):
        return judge_hindsight(self.world, self.eye, table)

    def test_right_tables(self):
        self.assertIsNone(self.judge(self.table))
        self.assertIsNone(self.judge(listed(self.table)))
        self.assertIsNone(self.judge(self.table[::-1]))
        self.assertIsNone(self.judge(self.table + self.table[:3]))
        more = tuple((first, second, 5 + 7 * rank if rank is not None else None) for first, second, rank in self.table)
        self.assertIsNone(self.judge(more))

    def test_what_must_be_in_it(self):
        self.assertEqual(self.judge(()), -1)
        for number in (0, 1, 2):
            self.assertEqual(self.judge(self.table[:number] + self.table[number + 1:]), -1)
        # Behind (0, 0) comes (1, 0), behind both together both of them, behind (2, 0) comes (3, 0).
        for number, first in ((3, 0), (4, 1), (5, 2)):
            self.assertEqual(self.judge(self.table[:number] + self.table[number + 1:]), first)

    def test_ranks(self):
        def changed(number, rank):
            rows = list(self.table)
            rows[number] = rows[number][:2] + (rank,)
            return self.judge(tuple(rows))

        self.assertEqual(changed(1, None), 1)
        self.assertEqual(changed(4, None), 1)
        self.assertEqual(changed(1, 0), 1)
        self.assertEqual(changed(4, 1), 1)
        self.assertIsNone(changed(1, 10 ** 39))
        # A pair that leads on for ever can have no rank; what leads to it can have none either.
        self.assertEqual(changed(0, 3), 0)
        self.assertEqual(changed(3, 3), 3)

    def test_the_first_row_tells_the_rank(self):
        row = self.table[4]
        self.assertEqual(self.judge(self.table[:4] + (row[:2] + (1,),) + self.table[4:]), 1)
        self.assertIsNone(self.judge(self.table + (row[:2] + (1,),)))
        self.assertEqual(self.judge(self.table + (row[:2] + (None,),)), 6)
        # The second row of a pair is judged with its own rank.
        self.assertEqual(self.judge(self.table + (self.table[1][:2] + (0,),)), 6)
        # A row that is wrong, but of the form told, tells its rank; one of another form does not.
        wrong = row[:2] + (None,)
        self.assertEqual(self.judge((wrong,) + self.table), 0)
        self.assertEqual(self.judge((self.table[1], wrong) + self.table), 0)
        self.assertEqual(self.judge((self.table[1], row[:2] + (True,)) + self.table), 1)

    def test_rows_of_another_form(self):
        first, second, _ = self.table[1]
        for odd in ODD + ((first, second), (first, second, 1, 1), (second, first, 1), (first, second, -1),
                          (first, second, True), (first, second, False), (first, second, "1"), (first, second, 1.0),
                          (first, (2, 1), 1), (first, (4, 0), 1), (first, (-1, 0), 1), (first, (True, 0), 1),
                          (first, (2, False), 1), (first, 2, 1), (first, None, None), (first, second, (1,)),
                          {first: second}, ((0, 0, 0), second, 1)):
            self.assertEqual(self.judge(self.table + (odd,)), 6)
            self.assertEqual(self.judge((odd,) + self.table), 0)
            # What stands in such rows alone is lacking, and that goes ahead.
            self.assertEqual(self.judge((odd,) + self.table[1:]), -1)

    def test_pairs_that_are_never_come_to(self):
        self.assertEqual(self.judge(self.table + (((0, 0), (3, 0), 0),)), None)
        self.assertEqual(self.judge(self.table + (((0, 0), (3, 0), None),)), 6)
        self.assertEqual(self.judge(self.table + (((1, 0), (2, 0), 5),)), None)
        self.assertEqual(judge_hindsight(ring("w.", "a", 0), Eye.fair(), (
            ((0, 0), (0, 0), None), ((1, 0), (1, 0), None), ((0, 0), (1, 0), None))), None)
        blind = Eye.through("....")
        self.assertEqual(judge_hindsight(ring("w.", "a", 0), blind, (
            ((0, 0), (0, 0), None), ((1, 0), (1, 0), None), ((0, 0), (1, 0), 7))), 2)

    def test_no_table_is_right_where_there_is_a_breach(self):
        world = either(ring("w", "a"), ring("w", "b"))
        rows = [(first, second, rank) for first in ((0, 0), (1, 0)) for second in ((0, 0), (1, 0))
                for rank in (None, 0, 1) if first <= second]
        for chosen in range(1 << len(rows)):
            table = tuple(row for number, row in enumerate(rows) if chosen >> number & 1)
            self.assertIsNotNone(judge_hindsight(world, Eye.fair(), table))

    def test_large_tables(self):
        world = many_together(1)
        table = Hindsight(world, Eye.fair()).table
        self.assertIsNone(judge_hindsight(world, Eye.fair(), table))
        self.assertEqual(judge_hindsight(world, Eye.fair(), table[:-1]), 1998)


if __name__ == "__main__":
    unittest.main()
