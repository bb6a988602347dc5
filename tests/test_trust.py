"""Point 25: minds that can trust a truth, and tables that show it."""

import unittest

from falseglim.eyes import Eye
from falseglim.makers import either, marked, ring
from falseglim.minds import Mind
from falseglim.trust import Trust, judge_trust
from falseglim.ways import failing
from falseglim.weathers import eye_of
from falseglim.worlds import World
from tests.helpers import error_of, is_misled, listed, many_nights, night_pairs, odd_rows, some_truth, sure_of


def told_trust(mind, world, eye):
    """The table and the breach by the words of the document."""
    looks, _ = night_pairs(mind, world, eye)
    misled = [pair for pair in looks if is_misled(mind, world, pair)]
    if not misled:
        return tuple(looks), None
    look = looks[misled[0]]
    standings = [pair[0] for pair in misled if looks[pair] == look]
    return None, (look, sure_of(mind, misled[0][1]), min(standings))


class TestTrust(unittest.TestCase):
    def setUp(self):
        self.mind = Mind(either(ring("w..", "a"), ring("w...", "b")), Eye.fair())

    def test_a_mind_that_can(self):
        truth, eye = ring("w..", "a"), Eye.fair()
        verdict = Trust(self.mind, truth, eye)
        self.assertIs(verdict.mind, self.mind)
        self.assertIs(verdict.world, truth)
        self.assertIs(verdict.eye, eye)
        self.assertIs(bool(verdict), True)
        self.assertIsNone(verdict.breach)
        self.assertEqual(verdict.table, told_trust(self.mind, truth, eye)[0])
        self.assertEqual((len(verdict), tuple(verdict)), (len(verdict.table), verdict.table))

    def test_a_mind_that_cannot(self):
        verdict = Trust(self.mind, ring("w....", "c"), Eye.fair())
        self.assertIs(bool(verdict), False)
        # Behind three dark beats it is sure of b; this is possible from the states 1 and 2 on.
        self.assertEqual(verdict.breach, ("...", "b", (0, 0)))
        self.assertIsNone(verdict.table)
        self.assertEqual((len(verdict), list(verdict)), (0, []))
        missed = Trust(self.mind, ring("w..", "a"), eye_of((("miss", 1, 8),)))
        self.assertEqual(missed.breach, told_trust(self.mind, ring("w..", "a"), eye_of((("miss", 1, 8),)))[1])

    def test_where_the_true_mark_is_empty(self):
        verdict = Trust(self.mind, marked(ring("w..", "a"), ""), Eye.fair())
        self.assertEqual(verdict.breach, ("w..w", "a", (1, 0)))
        doubtful = Mind(either(ring("w..", "a"), ring("w..", "")), Eye.fair())
        self.assertIs(bool(Trust(doubtful, marked(ring("w..", "a"), ""), Eye.fair())), True)
        amiss = Mind(either(ring("g", "a"), ring("r", "b")), Eye.fair())
        self.assertIs(bool(Trust(amiss, marked(ring("w..", "a"), ""), Eye.fair())), True)

    def test_the_breach_with_the_least_standing(self):
        truth = World("www", [(0, 1, 2)] * 3, (0, 1, 2), ("a", "b", "c"))
        mind = Mind(ring("w", "a"), Eye.fair())
        self.assertEqual(Trust(mind, truth, Eye.fair()).breach, ("", "a", (1, 0)))
        late = Mind(World("w.", [(1,), (1,)], (0,), ("", "b")), Eye.fair())
        self.assertEqual(Trust(late, truth, Eye.fair()).breach, ("w", "b", (0, 0)))

    def test_against_a_second_reckoning(self):
        trusted, deep = 0, 0
        for seed in range(150):
            mind, world, eye = some_truth(seed, 2 + seed % 3)
            table, breach = told_trust(mind, world, eye)
            verdict = Trust(mind, world, eye)
            self.assertEqual((verdict.table, verdict.breach), (table, breach))
            self.assertIs(bool(verdict), breach is None)
            trusted = trusted + (breach is None and len(table) > 3)
            deep = deep + (breach is not None and len(breach[0]) > 1)
            if breach is None:
                self.assertIsNone(judge_trust(mind, world, eye, table))
        self.assertGreater(trusted, 10)
        self.assertGreater(deep, 4)

    def test_fifteen_hundred_pairs(self):
        self.assertEqual(len(Trust(*many_nights(75, 20, "a"))), 1500)
        self.assertEqual(error_of(Trust, *many_nights(79, 19, "a")), ("TooMany", "night"))
        # It is told in the same way where the mind cannot trust.
        self.assertEqual(Trust(*many_nights(75, 20)).breach, ("", "a", (0, 0)))
        self.assertEqual(error_of(Trust, *many_nights(79, 19)), ("TooMany", "night"))

    def test_the_failing_light(self):
        truth = failing(ring("w..", "a"), ("lame", 2))
        verdict = Trust(self.mind, truth, Eye.fair())
        self.assertEqual(verdict.breach, told_trust(self.mind, truth, Eye.fair())[1])
        careful = Mind(either(failing(ring("w..", "a"), ("lame", 2)), ring("w...", "b")), Eye.fair())
        self.assertIs(bool(Trust(careful, truth, Eye.fair())), True)


class TestJudge(unittest.TestCase):
    def setUp(self):
        self.mind = Mind(either(ring("w..", "a"), ring("w...", "b")), Eye.fair())
        self.world, self.eye = ring("w..", "a"), Eye.fair()
        self.table = Trust(self.mind, self.world, self.eye).table

    def judge(self, table):
        return judge_trust(self.mind, self.world, self.eye, table)

    def test_right_tables(self):
        self.assertIsNone(self.judge(self.table))
        self.assertIsNone(self.judge(listed(self.table)))
        self.assertIsNone(self.judge(self.table[::-1]))
        self.assertIsNone(self.judge(self.table + self.table))

    def test_rows_that_lack(self):
        self.assertEqual(self.judge(()), -1)
        _, follow = night_pairs(self.mind, self.world, self.eye)
        for number, missing in enumerate(self.table):
            left = self.table[:number] + self.table[number + 1:]
            needing = [at for at, pair in enumerate(left) if missing in [later for _, later in follow(pair)]]
            self.assertEqual(self.judge(left), -1 if number < 3 else needing[0])

    def test_rows_of_another_form(self):
        many = len(self.table)
        for odd in odd_rows(*self.table[0]) + (self.table[0] + (None,), self.table[0][:1] + (self.table[0][1][::-1],)):
            self.assertEqual(self.judge(self.table + (odd,)), many)
            self.assertEqual(self.judge((odd,) + self.table), 0)
            self.assertEqual(self.judge((odd,) + self.table[1:]), -1)

    def test_pairs_that_are_never_come_to(self):
        # A mind that is amiss stays so; and one that is sure of b is misled.
        amiss = tuple(((state, 0), ()) for state in range(3))
        self.assertIsNone(self.judge(self.table + amiss))
        self.assertEqual(self.judge(self.table + amiss[:2]), len(self.table) + 1)
        self.assertEqual(self.judge(self.table + (((0, 0), ((3, 0),)),)), len(self.table))
        self.assertIsNone(self.judge(self.table + (((0, 0), ((0, 0), (3, 0))),)))
        self.assertEqual(self.judge(self.table + (((1, 0), ((0, 0), (3, 0))),)), len(self.table))

    def test_no_table_is_right_where_there_is_a_breach(self):
        mind, world, eye = Mind(ring("w", "a"), Eye.fair()), ring("w.", "b", 0), Eye.fair()
        rows = [((state, 0), known) for state in (0, 1) for known in ((), ((0, 0),))]
        for chosen in range(16):
            table = tuple(row for number, row in enumerate(rows) if chosen >> number & 1)
            self.assertIsNotNone(judge_trust(mind, world, eye, table))

    def test_tables_of_any_size(self):
        mind, world, eye = many_nights(79, 19, "a")
        table = tuple(((state, 0), ((known, 0),)) for state in range(19) for known in range(79))
        self.assertIsNone(judge_trust(mind, world, eye, table))
        self.assertEqual(judge_trust(mind, world, eye, table[:-1]), 77)
        misled, world, eye = many_nights(79, 19)
        self.assertEqual(judge_trust(misled, world, eye, table), 0)


if __name__ == "__main__":
    unittest.main()
