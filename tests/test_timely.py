"""Point 36: readers that are timely for a truth, and tables that show it."""

import itertools
import unittest

from falseglim.eyes import Eye
from falseglim.makers import either, ring
from falseglim.minds import Mind
from falseglim.orders import Orders
from falseglim.readers import Reader, reader_of, reader_of_mind
from falseglim.rightreaders import RightReader
from falseglim.timely import Timely, judge_timely
from falseglim.trust import Trust
from falseglim.weathers import eye_of
from falseglim.worlds import World
from tests.helpers import (ODD, error_of, greatest_rank, least_back, least_ways, listed, rows_to, some_eye,
                           some_truth, some_world, standings_behind)
from tests.test_rightreaders import beats, careful_reader, chain, circle, word_of

LOOP = (0, 0, 0, 0)


def told_timely(reader, world, eye):
    """The time, the table and the breach by the words of the document."""

    def follow(place):
        return [(sign, later) for sign, later in beats(reader, world, eye, place) if not word_of(reader, later[1])]

    if word_of(reader, 0):
        return 0, (), None
    looks = least_ways([((state, 0), 0) for state in world.begins], follow)
    for place in looks:
        if least_back(place, follow) is not None:
            return None, None, (looks[place], least_back(place, follow))
    table = tuple(place + (greatest_rank(place, follow, len(looks)) + 1,) for place in looks)
    return max(rank for place, state, rank in table if looks[(place, state)] == ""), table, None


def slowest(reader, world, eye, most):
    """The greatest number of beats until something is said, by going through all looks; None if it is more than most."""
    slow = 0
    for look in rows_to(most):
        if reader(look) is None and standings_behind(world, eye, look):
            slow = len(look) + 1
    return None if slow > most else slow


class TestTimely(unittest.TestCase):
    def setUp(self):
        self.world, self.eye = either(ring("w..", "a"), ring("w...", "b")), Eye.fair()
        self.reader = reader_of_mind(Mind(self.world, self.eye))

    def test_a_reader_that_is_timely(self):
        verdict = Timely(self.reader, self.world, self.eye)
        self.assertIs(verdict.reader, self.reader)
        self.assertIs(verdict.world, self.world)
        self.assertIs(verdict.eye, self.eye)
        self.assertIs(bool(verdict), True)
        self.assertIsNone(verdict.breach)
        self.assertIsInstance(verdict.table, tuple)
        self.assertEqual((verdict.time, verdict.table, None), told_timely(self.reader, self.world, self.eye))
        self.assertEqual(verdict.time, slowest(self.reader, self.world, self.eye, 7))
        self.assertEqual([row[:2] for row in verdict], list(RightReader(self.reader, self.world, self.eye)))
        self.assertEqual((len(verdict), tuple(verdict)), (len(verdict.table), verdict.table))

    def test_a_small_table(self):
        world = World("w.g", [(1,), (2,), (2,)], (0, 1), ("a", "a", "a"))
        green = Reader((("", (0, 1, 0, 0)), ("x", LOOP)))
        verdict = Timely(green, world, Eye.fair())
        self.assertEqual(verdict.table, (((0, 0), 0, 3), ((1, 0), 0, 2), ((2, 0), 0, 1)))
        self.assertEqual(verdict.time, 3)
        # The time is that from a beginning on, also if another place has a greater rank.
        late = World("wg.", [(1,), (1,), (0,)], (0,), ("a", "a", "a"))
        self.assertEqual((Timely(green, late, Eye.fair()).time, len(Timely(green, late, Eye.fair()))), (2, 2))
        branch = World("ggw", [(2,), (2,), (0,)], (1,), ("a", "a", "a"))
        red = Reader((("", (0, 1, 0, 0)), ("", (1, 2, 1, 1)), ("x", LOOP)))
        self.assertEqual(Timely(red, branch, Eye.fair()).time, 3)

    def test_what_it_says_does_not_matter(self):
        world = World("w.g", [(1,), (2,), (2,)], (0,), ("a", "a", "a"))
        for word in ("a", "b", "x"):
            self.assertEqual(Timely(Reader((("", (0, 1, 0, 0)), (word, LOOP))), world, Eye.fair()).time, 3)

    def test_a_reader_that_is_not(self):
        verdict = Timely(self.reader, ring(".", "x"), Eye.through("...."))
        self.assertIs(bool(verdict), True)
        green = Reader((("", (0, 1, 0, 0)), ("x", LOOP)))
        verdict = Timely(green, World("r.wg", [(1,), (2,), (1, 3), (3,)], (0,), ("a",) * 4), Eye.fair())
        self.assertIs(bool(verdict), False)
        self.assertEqual(verdict.breach, ("r", ".w"))
        self.assertIsNone(verdict.time)
        self.assertIsNone(verdict.table)
        self.assertEqual((len(verdict), list(verdict)), (0, []))
        # Seen through an eye that takes green for something else it can stay silent for ever.
        blind = eye_of((("take", "g", "."),))
        self.assertEqual(Timely(green, ring("gw", "a", 0), blind).breach, ("", ".w"))

    def test_the_first_pair_in_order(self):
        # Both beginnings have loops; the one with the lesser standing is the first pair.
        world = World("wr.", [(0, 1), (1,), (2,)], (0, 2), ("a",) * 3)
        silent = Reader((("", LOOP),))
        self.assertEqual(Timely(silent, world, Eye.fair()).breach, ("", "w"))
        # The least look to a pair with a loop, not the least loop.
        world = World(".wrgg", [(1,), (2,), (3,), (1, 4), (4,)], (0,), ("a",) * 5)
        self.assertEqual(Timely(silent, world, Eye.fair()).breach, (".", "wrg"))

    def test_a_word_at_the_state_0(self):
        said = Reader((("a", LOOP),))
        for world in (ring("w.", "a"), either(ring("w", "a"), ring("g", "b"))):
            verdict = Timely(said, world, Eye.fair())
            self.assertIs(bool(verdict), True)
            self.assertEqual((verdict.time, verdict.table, verdict.breach, len(verdict)), (0, (), None, 0))

    def test_against_a_second_reckoning(self):
        timely, slow, breaches = 0, 0, 0
        for seed in range(300):
            world, eye = some_world(seed, 2 + seed % 4), some_eye(seed, 1 + seed % 2, more=seed % 3)
            reader = careful_reader(world, eye, seed)
            if reader is None:
                continue
            verdict = Timely(reader, world, eye)
            told = told_timely(reader, world, eye)
            self.assertEqual((verdict.time, verdict.table, verdict.breach), told, seed)
            self.assertIs(bool(verdict), told[2] is None)
            if told[2] is None:
                self.assertIsNone(judge_timely(reader, world, eye, told[1]))
                timely, slow = timely + 1, max(slow, told[0])
                if told[0] < 5:
                    self.assertEqual(told[0], slowest(reader, world, eye, 5))
            else:
                breaches = breaches + (len(told[2][0]) > 0)
                look, loop = told[2]
                self.assertIsNone(reader(look + loop * 9))
                self.assertTrue(standings_behind(world, eye, look + loop * 9))
        self.assertGreater(timely, 20)
        self.assertGreater(slow, 2)
        self.assertGreater(breaches, 10)

    def test_readers_and_minds(self):
        count = 0
        for seed in range(60):
            mind, world, eye = some_truth(seed)
            reader = reader_of_mind(mind)
            if Trust(mind, world, eye):
                self.assertTrue(RightReader(reader, world, eye))
            # Whatever is right for what the mind supposes says nothing before the mind is sure.
            other = careful_reader(mind.world, mind.eye, 2 * seed + 1)
            if RightReader(other, mind.world, mind.eye):
                for look in rows_to(4):
                    if other(look) is not None and standings_behind(mind.world, mind.eye, look):
                        count = count + 1
                        self.assertLessEqual(reader(look)[1], other(look)[1])
        self.assertGreater(count, 10)

    def test_two_thousand_pairs(self):
        free = World("w" * 20, [tuple(range(20))] * 20, tuple(range(20)), ("a",) * 20)
        self.assertEqual(Timely(circle(100), free, Eye.fair()).breach, ("", "w" * 100))
        self.assertEqual(error_of(Timely, circle(101), free, Eye.fair()), ("TooMany", "night"))
        # Pairs with a word are not counted.
        verdict = Timely(chain(101, "b"), free, Eye.fair())
        self.assertEqual((len(verdict), verdict.time), (2000, 100))
        self.assertEqual(error_of(Timely, chain(102, "b"), free, Eye.fair()), ("TooMany", "night"))

    def test_orders(self):
        reader = reader_of(Orders((("wait", ".", 3), ("name", "a"))))
        verdict = Timely(reader, ring("w....", "a"), Eye.fair())
        # It is slowest from the second dark beat on: two dark ones, a white one, three dark ones.
        self.assertEqual(verdict.time, 6)
        never = Timely(reader, ring("w..", "a"), Eye.fair())
        self.assertEqual((never.time, never.table, never.breach), told_timely(reader, ring("w..", "a"), Eye.fair()))
        self.assertEqual(never.breach[1], never.breach[1][:3])
        # Orders that end without a word never say anything.
        self.assertEqual(Timely(reader_of(Orders((("skip",),))), ring("w", "a"), Eye.fair()).breach, ("", "w"))


class TestJudge(unittest.TestCase):
    def setUp(self):
        self.world, self.eye = either(ring("w..", "a"), ring("w...", "b")), Eye.fair()
        self.reader = reader_of_mind(Mind(self.world, self.eye))
        self.table = Timely(self.reader, self.world, self.eye).table

    def judge(self, table):
        return judge_timely(self.reader, self.world, self.eye, table)

    def later(self, row):
        return [later for _, later in beats(self.reader, self.world, self.eye, row[:2])]

    def test_right_tables(self):
        self.assertIsNone(self.judge(self.table))
        self.assertIsNone(self.judge(listed(self.table)))
        self.assertIsNone(self.judge(self.table[::-1]))
        self.assertIsNone(self.judge(self.table + self.table))
        # Greater ranks than needed are right, too, if they fall.
        self.assertIsNone(self.judge(tuple(row[:2] + (5 + 7 * row[2],) for row in self.table)))
        self.assertIsNone(self.judge(tuple(row[:2] + (10 ** 39 - 100 + row[2],) for row in self.table)))

    def test_rows_that_lack(self):
        self.assertEqual(self.judge(()), -1)
        for number, missing in enumerate(self.table):
            left = self.table[:number] + self.table[number + 1:]
            needing = [at for at, row in enumerate(left) if missing[:2] in self.later(row)]
            self.assertEqual(self.judge(left), -1 if number < 7 else needing[0])

    def test_ranks(self):
        for number, row in enumerate(self.table):
            needing = [at for at, other in enumerate(self.table) if row[:2] in self.later(other)]
            greater = self.table[:number] + (row[:2] + (row[2] + 9,),) + self.table[number + 1:]
            self.assertEqual(self.judge(greater), needing[0] if needing else None)
            silent = [later for later in self.later(row) if not word_of(self.reader, later[1])]
            less = self.table[:number] + (row[:2] + (row[2] - 1,),) + self.table[number + 1:]
            if silent:
                self.assertEqual(self.judge(less), number)
            else:
                # A rank of 0 has not the form told: what is told there alone is lacking.
                self.assertEqual(row[2], 1)
                self.assertEqual(self.judge(less), -1 if number < 7 else min(needing + [number]))

    def test_equal_ranks_are_not_lesser(self):
        flat = tuple(row[:2] + (9,) for row in self.table)
        self.assertEqual(self.judge(flat), next(number for number, row in enumerate(self.table) if [
            later for later in self.later(row) if not word_of(self.reader, later[1])]))

    def test_the_first_row_tells_the_rank(self):
        row = self.table[-1]
        needing = [at for at, other in enumerate(self.table) if row[:2] in self.later(other)]
        self.assertIsNone(self.judge(self.table + (row[:2] + (99,),)))
        self.assertEqual(self.judge((row[:2] + (99,),) + self.table), needing[0] + 1)
        # The second row of a pair is judged with its own rank.
        first = max(self.table, key=lambda row: row[2])
        self.assertEqual(self.judge(self.table + (first[:2] + (1,),)), len(self.table))
        # A row of another form tells nothing.
        for odd in (0, -1, True, None, "9", 9.0, (9,)):
            self.assertEqual(self.judge((row[:2] + (odd,),) + self.table), 0)
            self.assertEqual(self.judge(self.table + (row[:2] + (odd,),)), len(self.table))
        # A row that is wrong otherwise tells its rank: the state has a word here.
        world, said = ring("w", "a", 0), Reader((("", (1, 1, 1, 1)), ("a", LOOP)))
        self.assertEqual(judge_timely(said, world, Eye.fair(), (((0, 0), 0, 1), ((0, 0), 1, 1))), 1)

    def test_rows_of_another_form(self):
        many = len(self.reader)
        for odd in ODD + (((0, 0),), ((0, 0), 0), ((0, 0), 0, 9, 9), ((0, 0), many, 9), ((0, 0), -1, 9), ((0, 0), True, 9),
                          ((0, 0), "0", 9), ((0, 0), None, 9), ((7, 0), 0, 9), ((0, 1), 0, 9), ((True, 0), 0, 9),
                          ((0, False), 0, 9), (0, 0, 9), ((0, 0, 0), 0, 9), ((0, 0), 0.0, 9), {(0, 0): 0}, ((-1, 0), 0, 9),
                          (None, 0, 9), ("00", 0, 9), ((0, 0), 0, True), ((0, 0), 0, 0), ((0, 0), 0, None)):
            self.assertEqual(self.judge(self.table + (odd,)), len(self.table))
            self.assertEqual(self.judge((odd,) + self.table), 0)
            self.assertEqual(self.judge((odd,) + self.table[1:]), -1)

    def test_all_places(self):
        # Each place is judged, whether or not a look leads there.
        ranks = {row[:2]: row[2] for row in self.table}
        found = set()
        for place in itertools.product([(state, 0) for state in range(7)], range(len(self.reader))):
            for rank in (1, 3, 99):
                told = {place: rank, **ranks}
                good = not word_of(self.reader, place[1]) and all(
                    word_of(self.reader, later[1]) or told.get(later, 99) < rank for later in self.later(place))
                self.assertEqual(self.judge(self.table + (place + (rank,),)), None if good else len(self.table))
                found.add((good, place in ranks))
        self.assertEqual(len(found), 4)

    def test_a_word_at_the_state_0(self):
        said = Reader((("a", LOOP),))
        for world in (ring("w.", "a"), either(ring("w", "a"), ring("w", "b"))):
            self.assertIsNone(judge_timely(said, world, Eye.fair(), ()))
            self.assertEqual(judge_timely(said, world, Eye.fair(), (((0, 0), 0, 1),)), 0)

    def test_no_table_is_right_where_there_is_a_breach(self):
        world, silent = ring("w.", "b", 0), Reader((("", LOOP),))
        for ranks in itertools.product((1, 2, 3), repeat=2):
            table = tuple(((state, 0), 0, rank) for state, rank in enumerate(ranks))
            self.assertIsNotNone(judge_timely(silent, world, Eye.fair(), table))


if __name__ == "__main__":
    unittest.main()
