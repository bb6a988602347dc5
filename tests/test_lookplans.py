"""Point 41: at which light a ship looks at each beat, and tables of beliefs."""

import heapq
import itertools
import random
import unittest

from falseglim.eyes import Eye
from falseglim.lookplans import LookPlan, judge_lookplan
from falseglim.makers import ring
from falseglim.seas import Sea
from falseglim.weathers import eye_of
from falseglim.worlds import World
from tests.helpers import ODD, SIGNS, error_of, listed, some_eye, some_world
from tests.test_lightlots import stays
from tests.test_seas import some_sea

CLEAR, RED, GREEN, DARK = ".grw", ".rrr", ".ggg", "...."


def first_belief(sea, worlds):
    return tuple(sorted((region, states, 0) for region in sea.begins
                        for states in itertools.product(*[world.begins for world in worlds])))


def belief_behind(sea, worlds, eye, belief, light, sign):
    """The belief behind a beat by the words of the document."""
    found = set()
    for region, states, place in belief:
        shown = sea.sectors[region][light][SIGNS.index(worlds[light].shows[states[light]])]
        for entry in eye.entries:
            if entry[:3] == (place, shown, sign):
                nexts = [world.goes[state] for world, state in zip(worlds, states)]
                found.update((way, later, entry[3]) for way in sea.ways[region] for later in itertools.product(*nexts))
    return tuple(sorted(found))


def settled(belief):
    return len({region for region, _, _ in belief}) == 1


def told_plan(sea, worlds, eye, most=300):
    """The table by the words of the document, and where each belief leads; None if there are too many beliefs."""
    queue, rows, leads = [(0, (), first_belief(sea, worlds))], {}, {}
    while queue:
        many, row, belief = heapq.heappop(queue)
        if belief in rows:
            continue
        rows[belief] = row
        if len(rows) > most:
            return None
        leads[belief] = {}
        if not settled(belief):
            for light in range(len(worlds)):
                behind = {sign: belief_behind(sea, worlds, eye, belief, light, sign) for sign in SIGNS}
                leads[belief][light] = {sign: later for sign, later in behind.items() if later}
                for sign, later in leads[belief][light].items():
                    heapq.heappush(queue, (many + 1, row + ((light, sign),), later))
    values = {belief: 0 for belief in rows if settled(belief)}
    for _ in rows:
        values.update({belief: 1 + min(worst) for belief in rows for worst in [
            [max(values[later] for later in led.values()) for led in leads[belief].values()
             if all(later in values for later in led.values())]] if worst and belief not in values})
    table = []
    for belief in rows:
        light = None
        if values.get(belief, 0) > 0:
            light = min(light for light, led in leads[belief].items() if all(
                values.get(later, 999) < values[belief] for later in led.values()))
        table.append((belief, values.get(belief, -1), light))
    return tuple(table), leads


def some_case(seed):
    chance = random.Random(seed)
    sea = some_sea(seed, chance.randint(2, 3), chance.randint(1, 2))
    ways = [sorted({number, chance.choice((number, number, 0))}) for number in range(len(sea))]
    sea = Sea(sea.regions, ways, tuple(range(len(sea))), sea.sectors)
    worlds = tuple(some_world(seed + 31 * number, chance.randint(1, 2)) for number in range(len(sea.sectors[0])))
    eye = chance.choice((Eye.fair(), Eye.fair(), eye_of((("lose", 1),)), some_eye(seed, 2)))
    return sea, worlds, eye


# Three regions: the first light tells one of them, the second one another.
SEA = stays((CLEAR, CLEAR), (RED, CLEAR), (CLEAR, RED))
STEADY = (ring("w", "x"), ring("w", "y"))


class TestLookPlan(unittest.TestCase):
    def test_attributes(self):
        eye, worlds = Eye.fair(), list(STEADY)
        plan = LookPlan(SEA, worlds, eye)
        self.assertIs(plan.sea, SEA)
        self.assertIs(plan.eye, eye)
        self.assertEqual(plan.worlds, STEADY)
        self.assertIsInstance(plan.worlds, tuple)
        self.assertIs(plan.worlds[0], STEADY[0])
        self.assertIsNone(plan.breach)
        self.assertIs(bool(plan), True)
        self.assertEqual(plan.worst, 2)
        self.assertEqual((len(plan), tuple(plan)), (len(plan.table), plan.table))

    def test_the_table(self):
        plan = LookPlan(SEA, STEADY, Eye.fair())
        here = [(region, (0, 0), 0) for region in range(3)]
        self.assertEqual(plan.table, (
            (tuple(here), 2, 0), ((here[1],), 0, None), ((here[0], here[2]), 1, 1), ((here[2],), 0, None),
            ((here[0], here[1]), 1, 0), ((here[0],), 0, None)))

    def test_settled_at_once(self):
        plan = LookPlan(stays((CLEAR, CLEAR)), STEADY, Eye.fair())
        self.assertEqual(plan.table, ((((0, (0, 0), 0),), 0, None),))
        self.assertEqual((plan.worst, bool(plan), plan.play("")), (0, True, ((), ((0, (0, 0), 0),))))

    def test_no_value(self):
        plan = LookPlan(stays((CLEAR, CLEAR), (CLEAR, CLEAR)), STEADY, Eye.fair())
        self.assertIs(bool(plan), False)
        self.assertIsNone(plan.worst)
        self.assertIsNone(plan.breach)
        self.assertEqual(plan.table, ((((0, (0, 0), 0), (1, (0, 0), 0)), -1, None),))
        self.assertEqual(len(plan), 1)
        # Some beliefs have a value though the first one has none.
        plan = LookPlan(stays((CLEAR, CLEAR), (CLEAR, CLEAR), (RED, CLEAR)), STEADY, Eye.fair())
        self.assertEqual([row[1:] for row in plan], [(-1, None), (0, None), (-1, None)])
        self.assertIs(bool(plan), False)

    def test_lights_that_are_dark_now_and_then(self):
        # Both lights tell all; but the first one may be dark, the second one never is.
        sea = stays((CLEAR, CLEAR), (RED, GREEN))
        self.assertEqual(LookPlan(sea, (ring("w.", "x"), ring("w", "y")), Eye.fair()).table[0][1:], (1, 1))
        # Of several lights by which the value is reached, the first one.
        self.assertEqual(LookPlan(sea, STEADY, Eye.fair()).table[0][1:], (1, 0))
        # Both are dark at first in some places: the first one for no more than one beat.
        plan = LookPlan(sea, (ring("w.", "x"), ring("w..", "y")), Eye.fair())
        self.assertEqual((plan.worst, plan.table[0][2]), (2, 0))

    def test_all_lights_go_on(self):
        # While she looks at the one, the other one goes on: from one beginning each is lit at one beat alone.
        sea = stays((CLEAR, CLEAR), (RED, GREEN))
        worlds = (ring(".w.", "x", 0), ring("..w", "y", 0))
        plan = LookPlan(sea, worlds, Eye.fair())
        self.assertEqual((plan.worst, plan.play(".w")[0]), (2, (0, 0)))
        late = (World("..w.", [(1,), (2,), (3,), (3,)], (0,), ("",) * 4), World(".w..", [(1,), (2,), (3,), (3,)], (0,), ("",) * 4))
        self.assertEqual(LookPlan(sea, late, Eye.fair()).play(".g")[0], (0, 1))

    def test_the_eye_goes_on(self):
        # One sign can be lost in all; so behind one dark beat she sees all.
        sea = stays((CLEAR,), (RED,))
        plan = LookPlan(sea, STEADY[:1], eye_of((("lose", 1),)))
        self.assertEqual(plan.worst, 2)
        self.assertEqual(plan.play(".w"), ((0, 0), ((0, (0,), 1),)))
        self.assertEqual(plan.play("w"), ((0,), ((0, (0,), 0),)))
        self.assertEqual(error_of(plan.play, ".."), ("BadRow", 1))

    def test_a_ship_that_sails(self):
        # She can go from the first region to the second one, but not back: what was seen is not so for ever.
        sea = Sea(("a", "b"), ((0, 1), (1,)), (0, 1), ((CLEAR,), (RED,)))
        plan = LookPlan(sea, STEADY[:1], Eye.fair())
        self.assertIsNone(plan.worst)
        self.assertEqual([row[1] for row in plan], [-1, 0])

    def test_the_order_of_beliefs(self):
        plan = LookPlan(SEA, STEADY, Eye.fair())
        self.assertEqual(plan.play("r")[1], plan.table[1][0])
        for seed in range(40):
            told = told_plan(*some_case(seed))
            if told is not None:
                self.assertEqual([row[0] for row in LookPlan(*some_case(seed))], [row[0] for row in told[0]])

    def test_against_a_second_reckoning(self):
        found, longest, many = set(), 0, 0
        for seed in range(200):
            sea, worlds, eye = some_case(seed)
            told = told_plan(sea, worlds, eye)
            if told is None:
                self.assertEqual(error_of(LookPlan, sea, worlds, eye), ("TooMany", "belief"))
                continue
            plan = LookPlan(sea, worlds, eye)
            self.assertEqual(plan.table, told[0], seed)
            value = told[0][0][1]
            self.assertEqual((plan.worst, bool(plan)), (None, False) if value == -1 else (value, True))
            self.assertIsNone(judge_lookplan(sea, worlds, eye, plan.table))
            found.update(row[1:] for row in plan)
            longest, many = max(longest, value), max(many, len(plan))
        self.assertGreater(len(found), 4)
        self.assertGreater(longest, 1)
        self.assertGreater(many, 10)

    def test_behind(self):
        for seed in range(30):
            sea, worlds, eye = some_case(seed)
            plan = LookPlan(sea, worlds, eye)
            for belief, _, _ in plan.table[:6]:
                for light in range(len(worlds)):
                    for sign in SIGNS:
                        told = belief_behind(sea, worlds, eye, belief, light, sign)
                        self.assertEqual(plan.behind(belief, light, sign), told)
                        self.assertEqual(plan.behind(listed(belief), light, sign), told)
                        self.assertIsInstance(plan.behind(listed(belief), light, sign), tuple)

    def test_behind_beliefs_of_all_kinds(self):
        plan = LookPlan(SEA, STEADY, Eye.fair())
        here = [(region, (0, 0), 0) for region in range(3)]
        # A settled belief is led on, too; a sign that cannot be seen leads to nothing.
        self.assertEqual(plan.behind((here[0],), 0, "w"), (here[0],))
        self.assertEqual(plan.behind((here[0],), 0, "r"), ())
        self.assertEqual(plan.behind((here[0],), 1, "."), ())
        # A belief that is not listed.
        self.assertNotIn((here[1], here[2]), [row[0] for row in plan])
        self.assertEqual(plan.behind((here[1], here[2]), 1, "r"), (here[2],))
        self.assertEqual(plan.behind((here[1], here[2]), 1, "w"), (here[1],))

    def test_play(self):
        plan = LookPlan(SEA, STEADY, Eye.fair())
        here = [(region, (0, 0), 0) for region in range(3)]
        self.assertEqual(plan.play(""), ((), tuple(here)))
        self.assertEqual(plan.play("w"), ((0,), (here[0], here[2])))
        self.assertEqual(plan.play("wr"), ((0, 1), (here[2],)))
        self.assertEqual(plan.play("ww"), ((0, 1), (here[0],)))
        self.assertEqual(plan.play("r"), ((0,), (here[1],)))
        # A sign that cannot be seen there; then a belief that is settled already.
        for row, at in (("g", 0), (".", 0), ("wg", 1), ("w.", 1), ("rw", 1), ("rr", 1), ("wwr", 2), ("wwww", 2), ("wgx"[:2], 1)):
            self.assertEqual(error_of(plan.play, row), ("BadRow", at), row)
        # What is no row goes ahead.
        for row, at in (("gx", 1), ("x", 0), ("rrrx", 3), ("w" * 401, -1), (None, -1), (("w",), -1), (["w"], -1), (1, -1)):
            self.assertEqual(error_of(plan.play, row), ("BadRow", at))
        self.assertEqual(error_of(plan.play, "w" * 400), ("BadRow", 2))

    def test_no_value_goes_ahead_of_all(self):
        plan = LookPlan(stays((CLEAR, CLEAR), (CLEAR, CLEAR)), STEADY, Eye.fair())
        for row in ("", "w", "x", None, "w" * 401, "g"):
            self.assertEqual(error_of(plan.play, row), ("NoValue",))

    def test_she_comes_to_know_where_she_is(self):
        # Whatever happens, the true place is in the belief, and no play has more beats than the value tells.
        plays = 0
        for seed in range(80):
            sea, worlds, eye = some_case(seed)
            plan = error_of(LookPlan, sea, worlds, eye)
            if not isinstance(plan, LookPlan) or not plan:
                continue
            chance = random.Random(seed)
            for _ in range(10):
                place, row = chance.choice(first_belief(sea, worlds)), ""
                lights, belief = plan.play(row)
                while not settled(belief):
                    told = next(row for row in plan if row[0] == belief)
                    signs = [sign for sign in SIGNS if belief_behind(sea, worlds, eye, (place,), told[2], sign)]
                    row = row + chance.choice(signs)
                    place = chance.choice(belief_behind(sea, worlds, eye, (place,), told[2], row[-1]))
                    lights, belief = plan.play(row)
                    self.assertEqual((len(lights), lights[-1]), (len(row), told[2]))
                    self.assertIn(place, belief)
                    plays = plays + 1
                self.assertLessEqual(len(row), plan.worst)
        self.assertGreater(plays, 50)

    def test_three_hundred_beliefs(self):
        # A chain that can be anywhere behind each beat, and a sign that tells nothing: one belief more each beat.
        def chain(many):
            goes = [(state + 1,) for state in range(many - 1)] + [(many - 1,)]
            return World("w" * many, goes, (0,), ("",) * many)

        sea = stays((CLEAR, CLEAR), (CLEAR, CLEAR))
        slow, wheel = chain(96), ring("w" * 5, "x", 0)
        self.assertEqual(len(LookPlan(sea, (slow, wheel), Eye.fair())), 100)
        one = World("w" * 96, [(state + 1,) for state in range(95)] + [(0,)], (0,), ("",) * 96)
        three = stays((CLEAR,) * 3, (CLEAR,) * 3)
        wide = World("w" * 25, [(state + 1,) for state in range(24)] + [(0,)], (0,), ("",) * 25)
        self.assertEqual(len(LookPlan(stays((CLEAR,) * 2, (CLEAR,) * 2), (ring("w" * 12, "x", 0), wide), Eye.fair())), 300)
        other = World("w" * 43, [(state + 1,) for state in range(42)] + [(0,)], (0,), ("",) * 43)
        # 301 is 7 times 43.
        self.assertEqual(error_of(LookPlan, sea, (ring("w" * 7, "x", 0), other), Eye.fair()), ("TooMany", "belief"))
        self.assertEqual(error_of(LookPlan, three, (one, other, wheel), Eye.fair()), ("TooMany", "belief"))
        # Whether or not the first belief has a value: at the first light red tells all.
        signal = stays((CLEAR, CLEAR, CLEAR), (RED, CLEAR, CLEAR))
        self.assertEqual(error_of(LookPlan, signal, (ring("w", "x"), one, other), Eye.fair()), ("TooMany", "belief"))
        self.assertEqual(LookPlan(signal, (ring("w", "x"), ring("w" * 7, "x", 0), wheel), Eye.fair()).worst, 1)

    def test_bad_worlds(self):
        for odd in ODD + ((), STEADY[:1], STEADY + STEADY[:1], STEADY[0], (STEADY[0], None), {0: STEADY[0], 1: STEADY[1]}):
            self.assertEqual(error_of(LookPlan, SEA, odd, Eye.fair()), ("BadWorlds", -1))
            self.assertEqual(error_of(judge_lookplan, SEA, odd, Eye.fair(), ()), ("BadWorlds", -1))


class TestJudge(unittest.TestCase):
    def setUp(self):
        self.eye = Eye.fair()
        self.table = LookPlan(SEA, STEADY, self.eye).table
        self.here = [(region, (0, 0), 0) for region in range(3)]

    def judge(self, table):
        return judge_lookplan(SEA, STEADY, self.eye, table)

    def test_right_tables(self):
        self.assertIsNone(self.judge(self.table))
        self.assertIsNone(self.judge(listed(self.table)))
        self.assertIsNone(self.judge(self.table[::-1]))
        self.assertIsNone(self.judge(self.table + self.table))

    def test_rows_that_lack(self):
        self.assertEqual(self.judge(()), -1)
        _, leads = told_plan(SEA, STEADY, self.eye)
        for number, (missing, _, _) in enumerate(self.table):
            left = self.table[:number] + self.table[number + 1:]
            needing = [at for at, row in enumerate(left) for led in leads[row[0]].values() if missing in led.values()]
            self.assertEqual(self.judge(left), -1 if number == 0 else needing[0])

    def test_values_and_lights(self):
        for number, (belief, value, light) in enumerate(self.table):
            for other, another in itertools.product((-1, 0, 1, 2, 3, 9), (None, 0, 1)):
                table = self.table[:number] + ((belief, other, another),) + self.table[number + 1:]
                told = self.judge(table)
                if (other, another) == (value, light):
                    self.assertIsNone(told)
                elif number == 0:
                    self.assertEqual(told, 0)
                else:
                    # A belief that leads here may be wrong then already.
                    self.assertLessEqual(told, number)

    def test_values_of_others_are_looked_up(self):
        number = 2
        belief = self.table[number][0]
        # With another value there, the first belief would have another one, too.
        table = self.table[:number] + ((belief, 3, 1),) + self.table[number + 1:]
        self.assertEqual(self.judge(table), 0)
        table = ((self.table[0][0], 2, 1),) + table[1:]
        self.assertEqual(self.judge(table), number)
        table = self.table[:number] + ((belief, -1, None),) + self.table[number + 1:]
        self.assertEqual(self.judge(table), 0)
        self.assertEqual(self.judge(((self.table[0][0], 2, 1),) + table[1:]), number)

    def test_the_first_row_tells_the_value(self):
        belief = self.table[2][0]
        self.assertEqual(self.judge(self.table + ((belief, 9, 1),)), 6)
        self.assertEqual(self.judge(((belief, 9, 1),) + self.table), 0)
        self.assertEqual(self.judge((self.table[0], (belief, 9, 1)) + self.table[1:]), 0)
        # A row of another form tells nothing.
        for odd in ((belief, -2, 1), (belief, 9, 2), (belief, True, 1), (belief, 9, "1"), (belief, None, None)):
            self.assertEqual(self.judge((self.table[0], odd) + self.table[1:]), 1)

    def test_a_settled_belief_is_right_whatever_else_is_there(self):
        alone = stays((CLEAR, CLEAR))
        self.assertIsNone(judge_lookplan(alone, STEADY, self.eye, ((((0, (0, 0), 0),), 0, None),)))
        # Its beliefs behind are not asked for.
        worlds = (ring("w.", "x", 0), ring("w", "y"))
        self.assertIsNone(judge_lookplan(alone, worlds, self.eye, ((((0, (0, 0), 0),), 0, None),)))
        self.assertIsNone(judge_lookplan(alone, worlds, self.eye, ((((0, (0, 0), 0),), 0, None),
                                                                   (((0, (1, 0), 0),), 0, None))))
        for value, light in ((1, None), (-1, None), (0, 0), (0, 1), (1, 0)):
            self.assertEqual(judge_lookplan(alone, worlds, self.eye, ((((0, (0, 0), 0),), value, light),)), 0)

    def test_beliefs_without_a_value(self):
        sea = stays((CLEAR, CLEAR), (CLEAR, CLEAR))
        both = ((0, (0, 0), 0), (1, (0, 0), 0))
        self.assertIsNone(judge_lookplan(sea, STEADY, self.eye, ((both, -1, None),)))
        for value, light in ((-1, 0), (0, None), (0, 0), (1, 0), (5, 1), (5, None)):
            self.assertEqual(judge_lookplan(sea, STEADY, self.eye, ((both, value, light),)), 0)
            self.assertEqual(judge_lookplan(sea, STEADY, self.eye, ((both, -1, None), (both, value, light))), 1)

    def test_no_value_where_one_light_has_one(self):
        # The second light tells nothing: it leads on for ever; the first one tells all.
        sea = stays((CLEAR, CLEAR), (RED, CLEAR))
        table = LookPlan(sea, STEADY, self.eye).table
        self.assertEqual(table[0][1:], (1, 0))
        self.assertIsNone(judge_lookplan(sea, STEADY, self.eye, table))
        for value, light in ((-1, None), (1, 1), (2, 1), (2, 0), (1, None)):
            self.assertEqual(judge_lookplan(sea, STEADY, self.eye, ((table[0][0], value, light),) + table[1:]), 0)

    def test_rows_of_another_form(self):
        belief = self.table[0][0]
        first = self.here[0]
        for odd in ODD + ((belief,), (belief, 2), (belief, 2, 0, 0), ((), -1, None), ([], 0, None), (belief[::-1], 2, 0),
                          (belief + belief[-1:], 2, 0), (first, 0, None), ((first[:2],), 0, None), ((first + (0,),), 0, None),
                          (((3, (0, 0), 0),), 0, None), (((-1, (0, 0), 0),), 0, None), (((True, (0, 0), 0),), 0, None),
                          (((0, (0,), 0),), 0, None), (((0, (0, 0, 0), 0),), 0, None), (((0, (0, 1), 0),), 0, None),
                          (((0, (0, True), 0),), 0, None), (((0, (0, 0), 1),), 0, None), (((0, (0, 0), False),), 0, None),
                          (((0, (0, 0), []),), 0, None), (((0, 0, 0),), 0, None), (((0, "00", 0),), 0, None),
                          ((first,), True, None), ((first,), False, None), ((first,), -2, None), ((first,), None, None),
                          ((first,), 0.0, None), ((first,), "0", None), ((first,), 0, 2), ((first,), 0, -1), ((first,), 0, True),
                          ((first,), 0, "0"), {0: 1}, "abc", (None, 0, None), ("a", 0, None)):
            self.assertEqual(self.judge(self.table + (odd,)), 6, odd)
            self.assertEqual(self.judge((odd,) + self.table), 0)
            self.assertEqual(self.judge((odd,) + self.table[1:]), -1)

    def test_beliefs_that_are_never_come_to(self):
        more = ((self.here[1], self.here[2]), 1, 0)
        self.assertIsNone(self.judge(self.table + (more,)))
        self.assertEqual(self.judge(self.table + ((more[0], 1, 1),)), 6)
        self.assertEqual(self.judge(self.table + ((more[0], 2, 0),)), 6)
        self.assertEqual(self.judge((more,) + self.table[:1] + self.table[2:]), 0)

    def test_against_a_second_reckoning(self):
        counts = set()
        for seed in range(60):
            sea, worlds, eye = some_case(seed)
            told = told_plan(sea, worlds, eye, 30)
            if told is None:
                continue
            table, leads = told
            chance = random.Random(seed)
            for _ in range(6):
                rows = list(table)
                number = chance.randrange(len(rows))
                rows[number] = (rows[number][0], chance.choice((-1, 0, 1, 2)), chance.choice((None, 0, len(worlds) - 1)))
                values = {row[0]: row[1] for row in rows}

                def right(belief, value, light):
                    if settled(belief):
                        return (value, light) == (0, None)
                    worst = {at: max(values[later] for later in led.values()) for at, led in leads[belief].items()
                             if -1 not in [values[later] for later in led.values()]}
                    if not worst:
                        return (value, light) == (-1, None)
                    least = min(worst.values())
                    return (value, light) == (least + 1, min(at for at in worst if worst[at] == least))

                wrong = [at for at, row in enumerate(rows) if not right(*row)]
                self.assertEqual(judge_lookplan(sea, worlds, eye, tuple(rows)), wrong[0] if wrong else None)
                counts.add((bool(wrong), wrong[:1] == [number]))
        self.assertEqual(len(counts), 3)


if __name__ == "__main__":
    unittest.main()
