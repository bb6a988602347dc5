"""Point 27: worlds within one another, and tables that show it."""

import itertools
import unittest

from falseglim.eyes import Eye
from falseglim.makers import either, marked, ring
from falseglim.minds import Mind
from falseglim.nights import Nights
from falseglim.weathers import eye_of
from falseglim.within import Within
from falseglim.worldpairs import WorldWithin, judge_worlds
from falseglim.worlds import World
from tests.helpers import ODD, error_of, least_ways, listed, rows_to, some_world


def behind(first, second, situation):
    """The sign shown and the situations behind a beat."""
    state, states = situation
    sign = first.shows[state]
    later = tuple(sorted({other for one in states if second.shows[one] == sign for other in second.goes[one]}))
    return [(sign, (further, later)) for further in first.goes[state]]


def told_within(first, second, most=5):
    """The table and the breach by the words of the document; breaches by going through rows of up to so many signs."""
    def follow(situation):
        return behind(first, second, situation)

    breach = None
    for row in rows_to(most, ".gw"):
        lacking = {first.marks[state] for state in first.ends(row)} - {second.marks[state] for state in second.ends(row)}
        if lacking:
            breach = (row, min(lacking))
            break
    looks = least_ways([(state, second.begins) for state in first.begins], follow)
    return tuple(looks) if breach is None else None, breach


def circle(many, lead=0, begins=(0,)):
    """A world that goes round in so many states, behind some others."""
    states = many + lead
    return World("w" * states, [(state + 1 if state + 1 < states else lead,) for state in range(states)], begins,
                 ("a",) * states)


class TestWorldWithin(unittest.TestCase):
    def test_attributes(self):
        first, second = ring("w..", "a"), either(ring("w..", "a"), ring("w.", "b"))
        verdict = WorldWithin(first, second)
        self.assertIs(verdict.first, first)
        self.assertIs(verdict.second, second)
        self.assertIs(bool(verdict), True)
        self.assertIsNone(verdict.breach)
        self.assertEqual(verdict.table, told_within(first, second)[0])
        self.assertEqual(verdict.table[:3], tuple((state, (0, 1, 2, 3, 4)) for state in range(3)))
        self.assertEqual((len(verdict), tuple(verdict)), (len(verdict.table), verdict.table))

    def test_breach(self):
        verdict = WorldWithin(ring("w..", "a"), ring("w.", "a"))
        self.assertIs(bool(verdict), False)
        self.assertEqual(verdict.breach, ("..", "a"))
        self.assertIsNone(verdict.table)
        self.assertEqual((len(verdict), list(verdict)), (0, []))
        self.assertEqual(WorldWithin(ring("w", "a"), ring("w", "b")).breach, ("", "a"))
        self.assertEqual(WorldWithin(ring("w", ""), ring("w", "b")).breach, ("", ""))
        self.assertEqual(WorldWithin(ring("w", "a"), ring("g", "a")).breach, ("w", "a"))
        # The mark is told at the end of the night, before its last state is shown.
        late = World("wg", [(1,), (1,)], (0,), ("a", "b"))
        self.assertEqual(WorldWithin(late, World("wr", [(1,), (1,)], (0,), ("a", "b"))).breach, ("wg", "b"))

    def test_the_least_mark(self):
        first = World("wwww", [(0, 1, 2, 3)] * 4, (0, 1, 2, 3), ("c", "b", "", "d"))
        self.assertEqual(WorldWithin(first, ring("w", "a")).breach, ("", ""))
        self.assertEqual(WorldWithin(first, ring("w", "")).breach, ("", "b"))
        self.assertEqual(WorldWithin(first, either(ring("w", ""), ring("w", "b"))).breach, ("", "c"))
        # The same row leads to states with unlike marks; one of them is not told by the other world.
        split = World("wgg", [(1, 2), (1,), (2,)], (0,), ("", "x", "y"))
        self.assertEqual(WorldWithin(split, World("wg", [(1,), (1,)], (0,), ("", "y"))).breach, ("w", "x"))
        self.assertEqual(WorldWithin(split, World("wg", [(1,), (1,)], (0,), ("", "x"))).breach, ("w", "y"))
        # Behind a row that the other world does not show, the least of several marks.
        self.assertEqual(WorldWithin(split, World("r", [(0,)], (0,), ("",))).breach, ("w", "x"))

    def test_the_least_row_is_the_shortest(self):
        # Behind two dark beats the mark is another one; but so it is behind one white beat.
        first = World(".w..", [(2,), (3,), (3,), (3,)], (0, 1), ("a", "a", "a", "b"))
        second = World(".w..", [(2,), (3,), (3,), (3,)], (0, 1), ("a", "a", "a", "a"))
        self.assertEqual(WorldWithin(first, second).breach, ("w", "b"))
        # The same where the other world does not show the rows, and where the longer marks are the lesser ones.
        self.assertEqual(WorldWithin(first, ring(".", "a")).breach, ("w", "b"))
        marks = World("..w", [(1, 2), (1,), (2,)], (0,), ("", "b", "aa"))
        self.assertEqual(WorldWithin(marks, ring(".", "")).breach, (".", "aa"))

    def test_against_all_rows(self):
        within, deep = 0, 0
        for seed in range(200):
            first = some_world(seed, 2 + seed % 3, ".gw", marks=("a", "b"))
            second = some_world(seed + 500, 2 + seed % 5, ".gw", marks=("a", "b"))
            if seed % 2:
                second = either(second, World(first.shows, first.goes, first.begins, ("a",) * len(first)),
                                World(first.shows, first.goes[:-1] + ((0,),), first.begins, ("b",) * len(first)))
            table, breach = told_within(first, second)
            verdict = WorldWithin(first, second)
            if breach is None and verdict.breach is not None:
                self.assertGreater(len(verdict.breach[0]), 5)
                continue
            self.assertEqual((verdict.table, verdict.breach), (table, breach))
            self.assertIs(bool(verdict), breach is None)
            within = within + (breach is None)
            deep = deep + (breach is not None and len(breach[0]) > 1)
            if breach is None:
                self.assertIsNone(judge_worlds(first, second, table))
        self.assertGreater(within, 10)
        self.assertGreater(deep, 10)

    def test_six_hundred_situations(self):
        self.assertEqual(len(WorldWithin(circle(24), circle(25))), 600)
        self.assertEqual(error_of(WorldWithin, circle(24, 1), circle(25)), ("TooMany", "situation"))
        self.assertEqual(error_of(WorldWithin, circle(24), circle(25, 1)), ("TooMany", "situation"))
        self.assertEqual(error_of(WorldWithin, circle(25), circle(26)), ("TooMany", "situation"))

    def test_too_many_whether_within_or_not(self):
        self.assertEqual(error_of(WorldWithin, marked(circle(25), "b"), circle(26)), ("TooMany", "situation"))
        self.assertEqual(WorldWithin(marked(circle(24), "b"), circle(25)).breach, ("", "b"))
        # Situations in which the other world has no state are not counted.
        more = World("w" * 24 + "g" * 24, [((state + 1) % 24,) for state in range(24)] + [(state + 24,) for state in range(24)],
                     (0,) + tuple(range(24, 48)), ("a",) * 48)
        self.assertEqual(error_of(WorldWithin, more, circle(25)), ("TooMany", "situation"))
        less = World("w" * 23 + "g" * 20, [((state + 1) % 23,) for state in range(23)] + [(state + 23,) for state in range(20)],
                     (0,) + tuple(range(23, 43)), ("a",) * 43)
        self.assertEqual(WorldWithin(less, circle(25)).breach, ("g", "a"))

    def test_what_it_is_good_for(self):
        for seed in range(60):
            world = some_world(seed, 3, marks=("a", "b"))
            supposed = either(some_world(seed + 70, 3, marks=("a", "b")), world)
            eyes = eye_of((("lose", 1),)), eye_of((("lose", 2),))
            self.assertIs(bool(WorldWithin(world, supposed)), True)
            self.assertIs(bool(Within(*eyes)), True)
            nights = Nights(Mind(supposed, eyes[1]), world, eyes[0])
            self.assertEqual(nights.misled_pairs, ())
            self.assertTrue(all(pair[1] for pair in nights))


class TestJudge(unittest.TestCase):
    def setUp(self):
        self.first, self.second = ring("w..", "a"), either(ring("w..", "a"), ring("w.", "b"))
        self.table = WorldWithin(self.first, self.second).table

    def judge(self, table):
        return judge_worlds(self.first, self.second, table)

    def test_right_tables(self):
        self.assertIsNone(self.judge(self.table))
        self.assertIsNone(self.judge(listed(self.table)))
        self.assertIsNone(self.judge(self.table[::-1]))
        self.assertIsNone(self.judge(self.table + self.table[:2]))

    def test_rows_that_lack(self):
        self.assertEqual(self.judge(()), -1)
        for number, missing in enumerate(self.table):
            left = self.table[:number] + self.table[number + 1:]
            needing = [at for at, row in enumerate(left)
                       if missing in [later for _, later in behind(self.first, self.second, row)]]
            self.assertEqual(self.judge(left), -1 if number < 3 else needing[0])

    def test_rows_of_another_form(self):
        states = self.table[0][1]
        for odd in ODD + ((0,), (0, states, 0), (0, ()), (0, states[::-1]), (0, (0, 0)), (3, states), (-1, states),
                          (True, states), (0, (0, 5)), (0, (-1, 0)), (0, (False, 1)), (0, 0), ("0", states), (0, "01"),
                          (0, None), (0.0, states), {0: states}, (0, ((0,),)), ((0, states),), (0, {0: 1})):
            self.assertEqual(self.judge(self.table + (odd,)), len(self.table))
            self.assertEqual(self.judge((odd,) + self.table), 0)
            self.assertEqual(self.judge((odd,) + self.table[1:]), -1)

    def test_marks_and_rows_that_are_never_come_to(self):
        # None of the states 3 and 4 has the mark a.
        self.assertEqual(self.judge(self.table + ((0, (3, 4)),)), len(self.table))
        for state in range(3):
            for states in ((0,), (1,), (2,), (0, 3), (0, 1, 3), (1, 2, 4)):
                led = [later for _, later in behind(self.first, self.second, (state, states))]
                told = None if set(led) <= set(self.table) | {(state, states)} else len(self.table)
                self.assertEqual(self.judge(self.table + ((state, states),)), told)

    def test_each_beginning(self):
        world = World("wg", [(0,), (1,)], (0, 1), ("a", "a"))
        self.assertIsNone(judge_worlds(world, world, ((0, (0, 1)), (1, (0, 1)), (0, (0,)), (1, (1,)))))
        self.assertEqual(judge_worlds(world, world, ((0, (0, 1)), (0, (0,)), (1, (1,)))), -1)
        self.assertEqual(judge_worlds(world, world, ((1, (0, 1)), (0, (0,)), (1, (1,)))), -1)
        # The beginnings of the other world alone are not the situation.
        self.assertEqual(judge_worlds(world, world, ((0, (0,)), (1, (1,)))), -1)

    def test_no_table_is_right_where_there_is_a_breach(self):
        first, second = ring("w.", "a", 0), World("w.", [(1,), (1,)], (0,), ("a", "a"))
        self.assertEqual(WorldWithin(first, second).breach, ("w.w", "a"))
        rows = [(state, some) for state in (0, 1) for some in ((0,), (1,), (0, 1))]
        for many in range(7):
            for table in itertools.combinations(rows, many):
                self.assertIsNotNone(judge_worlds(first, second, table))


if __name__ == "__main__":
    unittest.main()
