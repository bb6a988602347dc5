"""Point 26: minds with a patience, and tables that show that one is enough."""

import unittest

from falseglim.eyes import Eye
from falseglim.makers import either, marked, ring
from falseglim.minds import Mind
from falseglim.patience import Patience, judge_patience
from falseglim.weathers import eye_of
from falseglim.worlds import World
from tests.helpers import (ODD, error_of, greatest_rank, is_misled, least_back, least_ways, listed, many_nights,
                           night_pairs, odd_rows, rows_to, some_truth, standings_behind, sure_of)

NO_PATIENCES = [odd for odd in ODD if not (type(odd) is int and odd == 0)] + [-5, 0.0, "0", (0,)]


def told_patience(mind, world, eye):
    """The least patience, the table and the breach, by the words of the document."""
    looks, follow = night_pairs(mind, world, eye)
    sure = {pair: sure_of(mind, pair[1]) for pair in looks}
    steady = {pair: [(sign, later) for sign, later in follow(pair) if sure[later] == sure[pair]]
              for pair in looks if sure[pair] is not None}
    elders = {pair: [] for pair in steady}
    for pair, led in steady.items():
        for sign, later in led:
            elders[later].append((sign, pair))
    ages = {pair: greatest_rank(pair, elders.get, len(looks)) for pair in steady}
    ages = {pair: None if age is None else age + 1 for pair, age in ages.items()}
    misled = [pair for pair in looks if is_misled(mind, world, pair)]
    if None not in [ages[pair] for pair in misled]:
        table = tuple(pair + (ages.get(pair, 0),) for pair in looks)
        return max([ages[pair] for pair in misled], default=0), table, None
    for pair in looks:
        if pair in steady and least_back(pair, steady.get) is not None:
            ways = least_ways([pair], steady.get)
            if any(later in misled for later in ways):
                way = next(look for later, look in ways.items() if later in misled)
                return None, None, (looks[pair], least_back(pair, steady.get), way)
    raise AssertionError("no bad loop")


def says(mind, look, patience):
    """What a mind with a patience says behind a look."""
    moments = [sure_of(mind, standings_behind(mind.world, mind.eye, look[:many])) for many in range(len(look) + 1)]
    last = moments[-patience - 1:]
    return last[0] if len(last) == patience + 1 and len(set(last)) == 1 else None


def misled_looks(mind, world, eye, patience, most):
    """All looks of at most so many signs behind which the mind is misled by saying, the least ones first."""
    for look in rows_to(most):
        word = says(mind, look, patience)
        if word is not None and any(world.marks[state] != word for state, _ in standings_behind(world, eye, look)):
            yield look


class TestPatience(unittest.TestCase):
    def test_attributes(self):
        mind, world, eye = Mind(either(ring("w..", "a"), ring("w...", "b")), Eye.fair()), ring("w....", "c"), Eye.fair()
        verdict = Patience(mind, world, eye)
        self.assertIs(verdict.mind, mind)
        self.assertIs(verdict.world, world)
        self.assertIs(verdict.eye, eye)
        self.assertIs(bool(verdict), True)
        self.assertIsNone(verdict.breach)
        # It is sure of b behind three dark beats, and for as long as nothing else comes.
        self.assertEqual((verdict.least, verdict.table, None), told_patience(mind, world, eye))
        self.assertEqual(verdict.undoing, next(misled_looks(mind, world, eye, verdict.least - 1, 8)))
        self.assertEqual((len(verdict), tuple(verdict)), (len(verdict.table), verdict.table))

    def test_no_patience_is_needed(self):
        verdict = Patience(Mind(either(ring("w.", "a"), ring("g.", "b")), Eye.fair()), ring("w.", "a"), Eye.fair())
        self.assertEqual((verdict.least, verdict.undoing, verdict.breach), (0, None, None))
        # It is sure of what is so for ever: the ages there have no bound.
        self.assertEqual({age for _, _, age in verdict}, {0, None})
        doubt = Patience(Mind(either(ring("w", "a"), ring("w", "b")), Eye.fair()), ring("w", "a"), Eye.fair())
        self.assertEqual((doubt.least, [age for _, _, age in doubt]), (0, [0]))

    def test_the_moment_ahead_of_the_first_beat(self):
        mind = Mind(World("wg", [(1,), (1,)], (0,), ("a", "")), Eye.fair())
        verdict = Patience(mind, ring("w", "b", 0), Eye.fair())
        self.assertEqual((verdict.least, verdict.undoing), (1, ""))
        self.assertEqual(verdict.table, (((0, 0), ((0, 0),), 1), ((0, 0), ((1, 0),), 0), ((0, 0), (), 0)))
        longer = Mind(World("wwg", [(1,), (2,), (2,)], (0,), ("a", "a", "")), Eye.fair())
        verdict = Patience(longer, ring("w", "b", 0), Eye.fair())
        self.assertEqual((verdict.least, verdict.undoing), (2, "w"))

    def test_ages_that_are_misled_late(self):
        # It is sure of a from the first moment on; this is so at first, and false behind two beats for one moment.
        mind = Mind(World("wwwg", [(1,), (2,), (3,), (3,)], (0,), ("a", "a", "a", "")), Eye.fair())
        world = World("wwww", [(1,), (2,), (3,), (3,)], (0,), ("a", "a", "b", "b"))
        verdict = Patience(mind, world, Eye.fair())
        self.assertEqual((verdict.least, verdict.undoing), (3, "ww"))
        self.assertEqual([age for _, _, age in verdict], [1, 2, 3, 0, 0])

    def test_the_spoiler_is_the_least_of_the_longest(self):
        # Two ways lead to what is not so: the one by w is longer to come to, the other one is as long and greater.
        mind = Mind(World("gw.wwg", [(2,), (3,), (4,), (4,), (5,), (5,)], (0, 1), ("", "", "a", "a", "a", "")), Eye.fair())
        world = World("gw.wwg", [(2,), (3,), (4,), (4,), (5,), (5,)], (0, 1), ("", "", "a", "a", "b", "b"))
        verdict = Patience(mind, world, Eye.fair())
        self.assertEqual((verdict.least, verdict.undoing), (2, "g."))
        self.assertEqual(verdict.undoing, next(misled_looks(mind, world, Eye.fair(), 1, 4)))

    def test_breaches(self):
        mind = Mind(ring("w.", "a", 0), Eye.fair())
        verdict = Patience(mind, ring("w.", "b", 0), Eye.fair())
        self.assertIs(bool(verdict), False)
        # It is misled in the loop itself: the way is empty.
        self.assertEqual(verdict.breach, ("", "w.", ""))
        self.assertEqual((verdict.least, verdict.undoing, verdict.table), (None, None, None))
        self.assertEqual((len(verdict), list(verdict)), (0, []))
        # Here it is so within the loop; behind it, it is not.
        supposed = World("gwr", [(1,), (1, 2), (2,)], (0,), ("", "a", "a"))
        truth = World("gwr", [(1,), (1, 2), (2,)], (0,), ("", "a", "b"))
        verdict = Patience(Mind(supposed, Eye.fair()), truth, Eye.fair())
        self.assertEqual(verdict.breach, ("gw", "w", "w"))
        # A loop behind which it is misled, but not sure all the time, is not bad.
        gap = World("gwgr", [(1,), (1, 2), (3,), (3,)], (0,), ("", "a", "", "a"))
        truth = World("gwg.", [(1,), (1, 2), (3,), (3,)], (0,), ("", "a", "", "a"))
        self.assertIs(bool(Patience(Mind(gap, Eye.fair()), truth, Eye.fair())), True)

    def test_where_the_true_mark_is_empty(self):
        mind = Mind(either(ring("w..", "a"), ring("w...", "b")), Eye.fair())
        verdict = Patience(mind, marked(ring("w..", "a"), ""), Eye.fair())
        self.assertEqual(verdict.breach, ("w..w", "..w", ""))

    def test_against_a_second_reckoning(self):
        enough, breaches, ways = 0, 0, 0
        for seed in range(400):
            mind, world, eye = some_truth(seed, 2 + seed % 4, 1 + seed % 2)
            told = told_patience(mind, world, eye)
            verdict = Patience(mind, world, eye)
            self.assertEqual((verdict.least, verdict.table, verdict.breach), told, seed)
            self.assertIs(bool(verdict), told[2] is None)
            if told[0]:
                self.assertEqual(verdict.undoing, next(misled_looks(mind, world, eye, told[0] - 1, len(verdict.undoing))))
                enough = enough + (told[0] > 1 or len(verdict.undoing) > 1)
            else:
                self.assertIsNone(verdict.undoing)
            if told[2] is None:
                self.assertIsNone(judge_patience(mind, world, eye, told[0], told[1]))
                if told[0]:
                    self.assertIsNotNone(judge_patience(mind, world, eye, told[0] - 1, told[1]))
            else:
                breaches = breaches + (len(told[2][0]) > 0)
                ways = ways + (len(told[2][2]) > 0)
        self.assertGreater(enough, 4)
        self.assertGreater(breaches, 4)
        self.assertGreater(ways, 0)

    def test_fifteen_hundred_pairs(self):
        self.assertEqual(len(Patience(*many_nights(75, 20, "a"))), 1500)
        self.assertEqual(Patience(*many_nights(75, 20)).breach, ("w" * 74, "w", ""))
        for mark in "ab":
            self.assertEqual(error_of(Patience, *many_nights(79, 19, mark)), ("TooMany", "night"))

    def test_a_long_patience(self):
        length = 90
        chain = World("w" * (length - 1) + "g", [(state + 1,) for state in range(length - 1)] + [(length - 1,)], (0,),
                      ("a",) * (length - 1) + ("",))
        verdict = Patience(Mind(chain, Eye.fair()), ring("w", "b", 0), Eye.fair())
        self.assertEqual((verdict.least, verdict.undoing), (length - 1, "w" * (length - 2)))


class TestJudge(unittest.TestCase):
    def setUp(self):
        # The mind is sure of a for three moments; it is misled at the third of them.
        self.mind = Mind(World("wwwg", [(1,), (2,), (3,), (3,)], (0,), ("a", "a", "a", "")), Eye.fair())
        self.world = World("wwww", [(1,), (2,), (3,), (3,)], (0,), ("a", "a", "b", "b"))
        self.table = Patience(self.mind, self.world, Eye.fair()).table

    def judge(self, table, patience=3):
        return judge_patience(self.mind, self.world, Eye.fair(), patience, table)

    def changed(self, *ages, patience=3):
        return self.judge(tuple(row[:2] + (age,) for row, age in zip(self.table, ages)), patience)

    def test_right_tables(self):
        self.assertEqual([age for _, _, age in self.table], [1, 2, 3, 0, 0])
        self.assertIsNone(self.judge(self.table))
        self.assertIsNone(self.judge(self.table, 10 ** 39))
        self.assertIsNone(self.judge(listed(self.table)))
        self.assertIsNone(self.judge(self.table[::-1]))
        self.assertIsNone(self.judge(self.table + self.table))

    def test_ages(self):
        self.assertEqual(self.judge(self.table, 2), 2)
        self.assertEqual(self.judge(self.table, 0), 2)
        # A greater age than needed, and None where no bound is told.
        self.assertIsNone(self.changed(2, 4, 7, 0, 0, patience=7))
        self.assertEqual(self.changed(2, 4, 7, 0, 0, patience=6), 2)
        self.assertEqual(self.changed(1, 2, None, 0, 0, patience=99), 2)
        self.assertEqual(self.changed(1, None, 3, 0, 0), 1)
        self.assertEqual(self.changed(None, 2, 3, 0, 0), 0)
        self.assertEqual(self.changed(None, None, 3, 0, 0), 1)
        self.assertEqual(self.changed(1, 1, 3, 0, 0), 0)
        self.assertEqual(self.changed(2, 2, 3, 0, 0), 0)
        self.assertEqual(self.changed(1, 2, 2, 0, 0), 1)
        # The age is 0 exactly where the mind is not sure.
        self.assertEqual(self.changed(0, 2, 3, 0, 0), 0)
        self.assertEqual(self.changed(1, 2, 0, 0, 0), 1)
        self.assertEqual(self.changed(1, 2, 3, 1, 0), 3)
        self.assertEqual(self.changed(1, 2, 3, None, 0), 3)
        self.assertEqual(self.changed(1, 2, 3, 0, 5), 4)

    def test_no_bound(self):
        mind, world = Mind(ring("w.", "a", 0), Eye.fair()), ring("w.", "a", 0)
        table = Patience(mind, world, Eye.fair()).table
        self.assertEqual([age for _, _, age in table], [None, None])
        self.assertIsNone(judge_patience(mind, world, Eye.fair(), 0, table))
        for ages in ((1, 2), (1, None), (None, 1), (2, 1)):
            self.assertIsNotNone(judge_patience(mind, world, Eye.fair(), 9, tuple(
                row[:2] + (age,) for row, age in zip(table, ages))))

    def test_marks_that_change(self):
        # Behind a pair at which it is sure of another mark, the age begins anew.
        supposed = World("wg", [(1,), (0,)], (0,), ("a", "b"))
        table = Patience(Mind(supposed, Eye.fair()), supposed, Eye.fair()).table
        self.assertEqual([age for _, _, age in table], [1, 1])
        self.assertIsNone(judge_patience(Mind(supposed, Eye.fair()), supposed, Eye.fair(), 0, table))
        self.assertIsNone(judge_patience(Mind(supposed, Eye.fair()), supposed, Eye.fair(), 0,
                                         (table[0][:2] + (None,), table[1][:2] + (7,))))

    def test_rows_that_lack(self):
        self.assertEqual(self.judge(()), -1)
        for number in range(5):
            left = self.table[:number] + self.table[number + 1:]
            self.assertEqual(self.judge(left), number - 1)
        two = World("ww", [(0,), (1,)], (0, 1), ("a", "a"))
        mind = Mind(ring("w", "a"), Eye.fair())
        table = Patience(mind, two, Eye.fair()).table
        self.assertEqual(len(table), 2)
        for number in (0, 1):
            self.assertEqual(judge_patience(mind, two, Eye.fair(), 0, table[number:number + 1]), -1)

    def test_the_first_row_tells_the_age(self):
        self.assertIsNone(self.judge(self.table + (self.table[0][:2] + (1,),)))
        self.assertEqual(self.judge(self.table + (self.table[0][:2] + (2,),)), 5)
        self.assertEqual(self.judge(self.table + (self.table[0][:2] + (None,),)), 5)
        self.assertEqual(self.judge((self.table[2][:2] + (2,),) + self.table), 2)
        # A row of the form told tells its age, though it is wrong; one of another form tells nothing.
        self.assertEqual(self.judge(self.table[:2] + (self.table[2][:2] + (0,),) + self.table[2:]), 1)
        self.assertEqual(self.judge(self.table[:2] + (self.table[2][:2] + (True,),) + self.table[2:]), 2)

    def test_rows_of_another_form(self):
        first = self.table[0]
        for odd in odd_rows(*first[:2]) + (first + (0,),):
            for row in (odd, odd + (1,)) if isinstance(odd, tuple) else (odd,):
                self.assertEqual(self.judge(self.table + (row,)), 5)
                self.assertEqual(self.judge((row,) + self.table), 0)
                self.assertEqual(self.judge((row,) + self.table[1:]), -1)
        for age in (-1, True, False, 1.0, "1", (1,)):
            self.assertEqual(self.judge(self.table + (first[:2] + (age,),)), 5)

    def test_pairs_that_are_never_come_to(self):
        self.assertIsNone(self.judge(self.table + (((3, 0), ((2, 0),), 3),)))
        self.assertEqual(self.judge(self.table + (((3, 0), ((2, 0),), None),)), 5)
        self.assertEqual(self.judge(self.table + (((3, 0), ((2, 0),), 4),)), 5)
        self.assertEqual(self.judge(self.table + (((2, 0), ((0, 0),), 1),)), 5)

    def test_bad_patiences(self):
        for odd in NO_PATIENCES:
            told = error_of(judge_patience, None, None, None, odd, None)
            self.assertEqual(told[0], "BadPatience")
            self.assertIs(told[1], odd)


if __name__ == "__main__":
    unittest.main()
