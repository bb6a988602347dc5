"""Point 13: eyes within one another, and tables that show it."""

import itertools
import unittest

from falseglim.eyes import Eye
from falseglim.weathers import eye_of
from falseglim.within import Within, judge_within, let_the_same
from tests.helpers import SIGNS, error_of, rows_of, seen_as, some_eye


def states_behind(eye, shown, seen):
    ways = {0}
    for sign, other in zip(shown, seen):
        ways = {entry[3] for entry in eye.entries if entry[0] in ways and entry[1:3] == (sign, other)}
    return tuple(sorted(ways))


def pairs_of_rows(most, signs=SIGNS):
    """All pairs of rows of the same length, the least ones first."""
    for many in range(most + 1):
        yield from itertools.product(rows_of(many, signs), repeat=2)


def circle(many, lead=0):
    """An eye that goes round in so many states, behind some others in which it begins."""
    return Eye([(state, sign, sign, state + 1 if state + 1 < many + lead else lead)
                for state in range(many + lead) for sign in SIGNS])


def remembering(many):
    """An eye that holds possible each of the last beats at which white was shown."""
    entries = [(0, sign, sign, 0) for sign in SIGNS] + [(0, "w", "w", 1)]
    entries += [(state, sign, sign, min(state + 1, many)) for state in range(1, many + 1) for sign in SIGNS]
    return Eye(entries)


def forgetful(many):
    """The same, but a beat is forgotten behind so many others."""
    entries = [(0, sign, sign, 0) for sign in SIGNS] + [(0, "w", "w", 1)]
    entries += [(state, sign, sign, state + 1 if state < many else 0) for state in range(1, many + 1) for sign in SIGNS]
    return Eye(entries)


class TestWithin(unittest.TestCase):
    def test_attributes(self):
        first, second = eye_of((("lose", 1),)), eye_of((("lose", 2),))
        verdict = Within(first, second)
        self.assertIs(verdict.first, first)
        self.assertIs(verdict.second, second)
        self.assertIs(bool(verdict), True)
        self.assertEqual(verdict.table, ((0, (0,)), (1, (1,))))
        self.assertIsNone(verdict.breach)
        self.assertEqual((len(verdict), list(verdict)), (2, [(0, (0,)), (1, (1,))]))

    def test_breach(self):
        verdict = Within(eye_of((("lose", 2),)), eye_of((("lose", 1),)))
        self.assertIs(bool(verdict), False)
        self.assertEqual(verdict.breach, ("gg", ".."))
        self.assertIsNone(verdict.table)
        self.assertEqual((len(verdict), list(verdict)), (0, []))

    def test_weathers_within_one_another(self):
        def within(first, second):
            return Within(eye_of(first), eye_of(second)).breach

        self.assertIsNone(within((("miss", 1, 5),), (("miss", 1, 3),)))
        self.assertEqual(within((("miss", 1, 3),), (("miss", 1, 5),)), ("g..g", "...."))
        self.assertIsNone(within((), (("glow",),)))
        self.assertEqual(within((("glow",),), ()), ("g.", "gg"))
        self.assertIsNone(within((("always", "w", "r"),), (("take", "w", "r"),)))
        self.assertEqual(within((("take", "w", "r"),), (("always", "w", "r"),)), ("w", "w"))
        self.assertEqual(within((("always", "w", "r"),), (("take", "w", "g"),)), ("w", "r"))
        self.assertEqual(within((), (("late",),)), ("g", "g"))

    def test_the_least_pair_is_compared_by_what_is_shown_first(self):
        # Both pairs have two beats: the first eye's lead from other states, so that what is seen is met first.
        first = Eye([(0, "g", ".", 1), (0, "g", "w", 2)] + [(0, sign, sign, 0) for sign in SIGNS]
                    + [(state, sign, sign, state) for state in (1, 2) for sign in SIGNS]
                    + [(1, "w", ".", 1), (2, ".", "w", 2)])
        second = Eye([(0, "g", ".", 0), (0, "g", "w", 0)] + [(0, sign, sign, 0) for sign in SIGNS])
        # ("gw", "..") is let by the one alone, and so is ("g.", "ww"); the row g. is the lesser one.
        self.assertEqual(Within(first, second).breach, ("g.", "ww"))

    def test_the_least_pair_can_come_from_a_later_situation(self):
        # The state 1 is met behind (g, .), the state 2 behind (g, w); both lead to the state 3, the state 1 by white,
        # the state 2 by dark: so the least pair of 3 is (g., ww), and not (gw, ..). The state 4 is met behind (gg, ..).
        first = Eye([(0, "g", ".", 1), (0, "g", "w", 2)] + [(0, sign, sign, 0) for sign in SIGNS]
                    + [(state, sign, sign, state) for state in (1, 2, 3, 4) for sign in SIGNS]
                    + [(1, "w", ".", 3), (2, ".", "w", 3), (1, "g", ".", 4)])
        blur = Eye([(0, shown, seen, 0) for shown in SIGNS for seen in SIGNS])
        self.assertEqual(Within(first, blur).table, tuple((state, (0,)) for state in (0, 1, 2, 3, 4)))

    def test_against_all_rows(self):
        count, deep = 0, 0
        for seed in range(60):
            first, second = some_eye(seed, 3, more=2), some_eye(seed + 900, 3, more=9)
            missing = first.entries[seed % len(first)]
            both = {entry for entry in first.entries + second.entries if entry != missing or seed % 4 == 0}
            second = Eye(sorted(both | {missing[:2] + (".",) + missing[3:]}))
            verdict = Within(first, second)
            told = next((pair for pair in pairs_of_rows(3) if seen_as(first, *pair) and not seen_as(second, *pair)), None)
            if told is None:
                count = count + 1
                self.assertTrue(verdict.breach is None or len(verdict.breach[0]) > 3)
            else:
                self.assertEqual(verdict.breach, told)
                deep = deep + (len(told[0]) > 1)
        self.assertGreater(count, 9)
        self.assertGreater(deep, 3)

    def test_situations_in_order(self):
        for seed in range(30):
            first, second = some_eye(seed, 3, more=3), some_eye(seed + 900, 3, more=4)
            blurred = Eye(sorted(set(first.entries) | set(second.entries) | {
                (state, shown, seen, 0) for state in range(3) for shown in SIGNS for seen in SIGNS}))
            verdict = Within(first, blurred)
            least = {}
            for shown, seen in pairs_of_rows(3):
                for state in states_behind(first, shown, seen):
                    situation = (state, states_behind(blurred, shown, seen))
                    least.setdefault(situation, (len(shown), shown, seen))
            told = sorted(least, key=lambda situation: (least[situation], situation))
            self.assertEqual(verdict.table[:len(told)], tuple(told)[:len(verdict.table)])
            self.assertLessEqual(set(told), set(verdict.table))
            self.assertIsNone(judge_within(first, blurred, verdict.table))

    def test_six_hundred_situations(self):
        verdict = Within(circle(24), circle(25))
        self.assertEqual(len(verdict), 600)
        self.assertEqual(verdict.table[599], (23, (24,)))
        self.assertEqual(error_of(Within, circle(24, 1), circle(25)), ("TooMany", "situation"))
        self.assertEqual(error_of(Within, circle(25), circle(26)), ("TooMany", "situation"))

    def test_too_many_whether_within_or_not(self):
        self.assertEqual(len(Within(Eye.fair(), forgetful(9))), 512)
        self.assertEqual(error_of(Within, Eye.fair(), forgetful(10)), ("TooMany", "situation"))
        # The first lets more than the second at once; situations without states of the second are not counted.
        blur = Eye([(0, shown, seen, 0) for shown in SIGNS for seen in SIGNS])
        self.assertEqual(error_of(Within, blur, forgetful(10)), ("TooMany", "situation"))
        self.assertEqual(Within(blur, forgetful(9)).breach, (".", "g"))
        more = Eye(circle(24).entries + ((0, "w", ".", 5),))
        self.assertEqual(Within(more, circle(25)).breach, ("w", "."))
        self.assertEqual(Within(Eye(circle(24, 0).entries + ((7, "w", "r", 5),)), circle(25)).breach,
                         (".......w", ".......r"))


class TestJudge(unittest.TestCase):
    def setUp(self):
        self.first, self.second = eye_of((("miss", 1, 4),)), eye_of((("miss", 1, 3),))
        self.table = Within(self.first, self.second).table

    def judge(self, table):
        return judge_within(self.first, self.second, table)

    def test_right_tables(self):
        self.assertGreater(len(self.table), 3)
        self.assertIsNone(self.judge(self.table))
        self.assertIsNone(self.judge([[state, list(states)] for state, states in self.table]))
        self.assertIsNone(self.judge(self.table[::-1]))
        self.assertIsNone(self.judge(self.table + self.table[:2]))

    def test_rows_missing(self):
        self.assertEqual(self.judge(()), -1)
        self.assertEqual(self.judge(self.table[1:]), -1)
        self.assertEqual(self.judge(self.table[1:] + self.table[:1]), None)
        for missing in range(1, len(self.table)):
            left = self.table[:missing] + self.table[missing + 1:]
            needing = [number for number, (state, states) in enumerate(left) if any(
                entry[0] == state and (entry[3], tuple(sorted({
                    other[3] for other in self.second.entries if other[0] in states and other[1:3] == entry[1:3]})))
                == self.table[missing] for entry in self.first.entries)]
            self.assertEqual(self.judge(left), needing[0])

    def test_rows_of_another_form(self):
        many = len(self.table)
        for odd in (None, 0, "00", (), (0,), (0, (0,), 0), (0, 0), (0, ()), (0, (1, 0)), (0, (0, 0)), (9, (0,)),
                    (0, (9,)), (-1, (0,)), (True, (0,)), (0, (True,)), (0, (False, 1)), (0, None), ("0", (0,)), (0.0, (0,)),
                    (0, ((0,),)), {0: (0,)}, (0, {0}), ((0, (0,)),), (0, (0, 10 ** 39))):
            self.assertEqual(self.judge(self.table + (odd,)), many)
            self.assertEqual(self.judge((odd,) + self.table), 0)
            self.assertEqual(self.judge(self.table[:2] + (odd, odd) + self.table[2:]), 2)
            # What stands in such rows alone is lacking; the beginning goes ahead.
            self.assertEqual(self.judge((odd,) + self.table[1:]), -1)
            self.assertEqual(self.judge((odd,)), -1)

    def test_rows_that_are_wrong(self):
        # A row that is never come to is judged like all others.
        self.assertEqual(self.judge(self.table + ((0, (1,)),)), len(self.table))
        clear = judge_within(Eye.fair(), eye_of((("lose", 2),)), ((0, (0,)), (0, (1,))))
        self.assertIsNone(clear)
        self.assertEqual(judge_within(eye_of((("lose", 1),)), Eye.fair(), ((0, (0,)), (1, (0,)))), 0)
        self.assertEqual(judge_within(eye_of((("lose", 1),)), Eye.fair(), ((1, (0,)), (0, (0,)))), 1)

    def test_no_table_is_right_where_there_is_a_breach(self):
        first, second = eye_of((("lose", 2),)), eye_of((("lose", 1),))
        states = [(0,), (1,), (0, 1)]
        rows = [(state, some) for state in range(3) for some in states]
        for many in range(5):
            for table in itertools.combinations(rows, many):
                self.assertIsNotNone(judge_within(first, second, table))

    def test_told_tables_are_right(self):
        count = 0
        for seed in range(40):
            first, second = some_eye(seed, 2, more=1), some_eye(seed + 300, 2, more=60)
            verdict = Within(first, second)
            if verdict:
                count = count + 1
                self.assertIsNone(judge_within(first, second, verdict.table))
        self.assertGreater(count, 10)

    def test_the_table_is_not_changed(self):
        table = [[state, list(states)] for state, states in self.table]
        self.judge(table)
        self.assertEqual(table, [[state, list(states)] for state, states in self.table])


class TestLetTheSame(unittest.TestCase):
    def test_both_ways(self):
        once, twice = eye_of((("lose", 1),)), eye_of((("lose", 2),))
        self.assertIs(let_the_same(once, once), True)
        self.assertIs(let_the_same(once, twice), False)
        self.assertIs(let_the_same(twice, once), False)
        self.assertIs(let_the_same(eye_of((("lose", 1), ("lose", 1))), twice), True)
        other = Eye([(5 if entry[0] == 1 else entry[0], entry[1], entry[2], 5 if entry[3] == 1 else entry[3])
                     for entry in once])
        self.assertIs(let_the_same(once, other), True)

    def test_too_many_in_any_case(self):
        blur = Eye([(0, shown, seen, 0) for shown in SIGNS for seen in SIGNS])
        self.assertEqual(error_of(let_the_same, blur, forgetful(10)), ("TooMany", "situation"))
        # The first is not within the second; the other way round there are too many.
        self.assertEqual(error_of(let_the_same, forgetful(10), Eye.fair()), ("TooMany", "situation"))
        self.assertIs(bool(Within(forgetful(10), Eye.fair())), True)
        more = Eye(forgetful(10).entries + ((0, "w", ".", 0),))
        self.assertIs(bool(Within(more, Eye.fair())), False)
        self.assertEqual(error_of(let_the_same, more, Eye.fair()), ("TooMany", "situation"))
        self.assertIs(let_the_same(remembering(4), Eye.fair()), True)


if __name__ == "__main__":
    unittest.main()
