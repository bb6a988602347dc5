"""Point 23: marks that are heeded, and tables that show it."""

import unittest

from falseglim.eyes import Eye
from falseglim.heeding import Heeding, judge_heeding
from falseglim.makers import either, marked, ring
from falseglim.minds import Mind
from falseglim.weathers import eye_of
from falseglim.worlds import World
from tests.helpers import (ODD, error_of, greatest_rank, least_back, listed, many_nights, night_pairs, odd_rows,
                           some_truth)

NO_MARKS = ODD[:7] + ("", (), [], {}, "ab", ("",), ("", "a"), ("a", "a"), ("b", "a"), ("A",), ("a", None), (None,), (1,),
                      ("a", True), (("a",),), ("abcdefghi",), {"a": 1}, ("a", "b", "ab"), object())


def told_heeding(mind, world, eye, marks):
    """The delay, the table and the breach, by the words of the document."""
    looks, follow = night_pairs(mind, world, eye)

    def unheeded(pair):
        held = {mind.world.marks[state] for state, _ in pair[1]}
        return world.marks[pair[0][0]] in marks and not held <= set(marks)

    def among(pair):
        return [(sign, later) for sign, later in follow(pair) if unheeded(later)]

    for pair in looks:
        if unheeded(pair) and least_back(pair, among) is not None:
            return None, None, (looks[pair], least_back(pair, among))
    table = tuple(pair + (greatest_rank(pair, among, len(looks)) + 1 if unheeded(pair) else 0,) for pair in looks)
    return max(rank for _, _, rank in table), table, None


class TestHeeding(unittest.TestCase):
    def setUp(self):
        self.mind = Mind(either(ring("w..", "a"), ring("w...", "b")), Eye.fair())

    def test_marks_that_are_heeded(self):
        truth, eye = ring("w..", "a"), Eye.fair()
        marks = ["a"]
        verdict = Heeding(self.mind, truth, eye, marks)
        self.assertIs(verdict.mind, self.mind)
        self.assertIs(verdict.world, truth)
        self.assertIs(verdict.eye, eye)
        self.assertEqual(verdict.marks, ("a",))
        self.assertIsInstance(verdict.marks, tuple)
        self.assertIs(bool(verdict), True)
        self.assertIsNone(verdict.breach)
        self.assertEqual(verdict.delay, 6)
        self.assertEqual((verdict.delay, verdict.table, None), told_heeding(self.mind, truth, eye, ("a",)))
        self.assertEqual((len(verdict), tuple(verdict)), (len(verdict.table), verdict.table))
        self.assertEqual(marks, ["a"])

    def test_ranks_of_heeded_pairs(self):
        # With both marks it heeds at once; where the true mark is not among them, nothing is to be heeded.
        for marks in (("a", "b"), ("b",), ("c",)):
            verdict = Heeding(self.mind, ring("w..", "a"), Eye.fair(), marks)
            self.assertEqual(verdict.delay, 0)
            self.assertEqual({rank for _, _, rank in verdict}, {0})
        empty = Heeding(self.mind, marked(ring("w..", "a"), ""), Eye.fair(), ("a",))
        self.assertEqual(empty.delay, 0)

    def test_the_empty_mark_is_not_heeded(self):
        mind = Mind(either(ring("w.", "a"), ring("w.", "")), Eye.fair())
        self.assertEqual(Heeding(mind, ring("w.", "a"), Eye.fair(), ("a",)).breach, (".", "w."))

    def test_a_mind_that_is_amiss_heeds(self):
        mind = Mind(either(ring("g", "a"), ring("g", "b")), Eye.fair())
        verdict = Heeding(mind, ring("w", "a", 0), Eye.fair(), ("a",))
        self.assertEqual(verdict.table, (((0, 0), ((0, 0), (1, 0)), 1), ((0, 0), (), 0)))
        self.assertEqual(verdict.delay, 1)

    def test_a_breach(self):
        careless = Mind(either(ring("w..", "a"), ring("w..", "b"), ring("w...", "c")), eye_of((("miss", 1, 3),)))
        verdict = Heeding(careless, ring("w..", "a"), Eye.fair(), ("a", "c"))
        self.assertIs(bool(verdict), False)
        self.assertIsNone(verdict.table)
        self.assertIsNone(verdict.delay)
        self.assertEqual((len(verdict), list(verdict)), (0, []))
        self.assertEqual((None, None, verdict.breach), told_heeding(careless, ring("w..", "a"), Eye.fair(), ("a", "c")))
        self.assertEqual(verdict.breach[1], verdict.breach[1][:3])
        # What is so is among the marks in every other state alone: no loop.
        turning = World("ww", [(1,), (0,)], (0,), ("a", "c"))
        never = Mind(either(ring("w", "a"), ring("w", "b")), Eye.fair())
        self.assertEqual(Heeding(never, turning, Eye.fair(), ("a",)).delay, 1)
        self.assertEqual(Heeding(never, turning, Eye.fair(), ("a", "c")).breach, ("", "ww"))

    def test_against_a_second_reckoning(self):
        heeded, breaches = 0, 0
        for seed in range(120):
            mind, world, eye = some_truth(seed, 2 + seed % 3)
            for marks in (("a",), ("a", "c"), ("a", "b")):
                told = told_heeding(mind, world, eye, marks)
                verdict = Heeding(mind, world, eye, marks)
                self.assertEqual((verdict.delay, verdict.table, verdict.breach), told)
                self.assertIs(bool(verdict), told[2] is None)
                heeded = heeded + (told[0] is not None and told[0] > 1)
                breaches = breaches + (told[2] is not None and len(told[2][0]) > 0)
                if verdict:
                    self.assertIsNone(judge_heeding(mind, world, eye, marks, verdict.table))
        self.assertGreater(heeded, 3)
        self.assertGreater(breaches, 3)

    def test_bad_marks_ahead_of_too_many(self):
        for odd in NO_MARKS:
            self.assertEqual(error_of(Heeding, *many_nights(79, 19), odd), ("BadMarks", -1), odd)
            self.assertEqual(error_of(judge_heeding, *many_nights(3, 2), odd, ()), ("BadMarks", -1))
        self.assertEqual(error_of(Heeding, *many_nights(79, 19), ("a",)), ("TooMany", "night"))
        self.assertEqual(len(Heeding(*many_nights(75, 20), ("0", "a", "b", "zz"))), 1500)


class TestJudge(unittest.TestCase):
    def setUp(self):
        self.mind = Mind(either(ring("w..", "a"), ring("w...", "b")), Eye.fair())
        self.world, self.eye = ring("w..", "a"), Eye.fair()
        self.table = Heeding(self.mind, self.world, self.eye, ("a",)).table

    def judge(self, table):
        return judge_heeding(self.mind, self.world, self.eye, ("a",), table)

    def test_right_tables(self):
        self.assertIsNone(self.judge(self.table))
        self.assertIsNone(self.judge(listed(self.table)))
        self.assertIsNone(self.judge(self.table[::-1]))
        self.assertIsNone(self.judge(self.table + self.table))
        # Ranks can be greater; those of heeded pairs can be any.
        self.assertIsNone(self.judge(tuple(row[:2] + (3 * row[2] + 5,) for row in self.table)))

    def test_rows_that_lack(self):
        self.assertEqual(self.judge(()), -1)
        _, follow = night_pairs(self.mind, self.world, self.eye)
        for number, missing in enumerate(self.table):
            left = self.table[:number] + self.table[number + 1:]
            needing = [at for at, row in enumerate(left) if missing[:2] in [later for _, later in follow(row[:2])]]
            self.assertEqual(self.judge(left), -1 if number < 3 else needing[0])

    def test_ranks(self):
        _, follow = night_pairs(self.mind, self.world, self.eye)
        for number, row in enumerate(self.table):
            changed = self.table[:number] + (row[:2] + (row[2] + 9,),) + self.table[number + 1:]
            leading = [at for at, other in enumerate(self.table) if other[2] > 0
                       and row[:2] in [later for _, later in follow(other[:2])]]
            self.assertEqual(self.judge(changed), leading[0] if row[2] > 0 and leading else None)
            if row[2] > 0:
                # An unheeded pair has a rank of at least 1, also where nothing unheeded comes behind it.
                changed = self.table[:number] + (row[:2] + (row[2] - 1,),) + self.table[number + 1:]
                self.assertEqual(self.judge(changed), number)

    def test_the_first_row_tells_the_rank(self):
        _, follow = night_pairs(self.mind, self.world, self.eye)
        greatest = max(self.table, key=lambda row: row[2])
        first = self.table.index(greatest)
        self.assertIsNone(self.judge(self.table + (greatest[:2] + (99,),)))
        self.assertEqual(self.judge(self.table + (greatest[:2] + (0,),)), len(self.table))
        behind = next(row for row in self.table if row[:2] in [later for _, later in follow(greatest[:2])])
        number = self.table.index(behind)
        self.assertEqual(self.judge(self.table[:number] + (behind[:2] + (99,),) + self.table[number:]), first)
        # A row of another form tells nothing.
        for odd in (True, None, -1, "9", 99.0):
            self.assertEqual(self.judge(self.table[:number] + (behind[:2] + (odd,),) + self.table[number:]), number)

    def test_rows_of_another_form(self):
        many = len(self.table)
        first = self.table[0]
        for odd in odd_rows(*first[:2]) + (first + (0,),):
            for row in (odd, odd + (6,)) if isinstance(odd, tuple) else (odd,):
                self.assertEqual(self.judge(self.table + (row,)), many)
                self.assertEqual(self.judge((row,) + self.table), 0)
                self.assertEqual(self.judge((row,) + self.table[1:]), -1)
        for rank in (None, -1, True, False, 6.0, "6", (6,)):
            self.assertEqual(self.judge(self.table + (first[:2] + (rank,),)), many)

    def test_pairs_that_are_never_come_to(self):
        amiss = tuple(((state, 0), (), 0) for state in range(3))
        self.assertIsNone(self.judge(self.table + amiss))
        self.assertEqual(self.judge(self.table + amiss[:2]), len(self.table) + 1)
        wrong = tuple(((state, 0), ((state + 3, 0),), 4 - state) for state in range(3))
        self.assertEqual(self.judge(self.table + amiss + wrong), len(self.table) + 5)

    def test_no_table_is_right_where_there_is_a_breach(self):
        mind, world = Mind(either(ring("w", "a"), ring("w", "b")), Eye.fair()), ring("w", "a")
        known = ((0, 0), (1, 0))
        for ranks in ((0,), (1,), (9, 0), (0, 9), (5, 4, 3)):
            table = tuple(((0, 0), known, rank) for rank in ranks)
            self.assertEqual(judge_heeding(mind, world, Eye.fair(), ("a",), table), 0)


if __name__ == "__main__":
    unittest.main()
