"""Points 20 and 21: ways of failing, and their lines."""

import random
import unittest

from falseglim.errors import BadLine, BadText, TooLong
from falseglim.makers import either, ring
from falseglim.ways import failing, is_way, read_ways, write_ways
from falseglim.worlds import World
from tests.helpers import ODD, SIGNS, error_of, listed, rows_of, some_world

WAYS = ([("glass", "...."), ("glass", "wwww"), ("glass", ".grw"), ("glass", "wgr.")]
        + [("lame", number) for number in (2, 3, 4)] + [("standin", row) for row in (".", "w.", "g" * 24)]
        + [("restart", times) for times in (1, 2, 3)] + [("slip", beats) for beats in range(2, 10)])
NO_WAYS = ODD + (
    "glass", ("glass",), ("glass", "...",), ("glass", "....."), ("glass", "...x"), ("glass", None), ("glass", "....", 1),
    ("Glass", "...."), ("lame",), ("lame", 1), ("lame", 5), ("lame", True), ("lame", "2"), ("lame", 2, 2), ("lame", 2.0),
    ("lame", None), ("standin",), ("standin", ""), ("standin", "w" * 25), ("standin", "wx"), ("standin", 2),
    ("standin", ("w",)), ("restart", 0), ("restart", 4), ("restart", True), ("restart", "1"), ("slip", 1), ("slip", 10),
    ("slip", True), ("slip", None), ("out", 1), (("glass", "...."),), {"glass": "...."}, (None, 2), ([], 2), ("", ""),
    ("lame", 10 ** 39), ("slip", (2,)))


def step_of(world, way, state, fails):
    """The sign of a state that fails so, and where it leads, by the words of the document."""
    word, told = way
    sign = world.shows[state]
    if word == "glass":
        later = [(behind, 1) for behind in world.goes[state]]
        later += [(behind, 0) for behind in world.goes[state] if fails == 0]
        return (told[SIGNS.index(sign)] if fails else sign), later
    if word == "lame":
        if fails == 0:
            return sign, [(behind, number) for behind in world.goes[state] for number in (0, 1)]
        flashes, lit = divmod(fails - 1, 2)
        shown = sign
        if sign != ".":
            number = flashes if lit else flashes + 1
            shown = "." if number % told == 0 else sign
            flashes = number % told
        return shown, [(behind, 1 + 2 * flashes + (sign != ".")) for behind in world.goes[state]]
    if word == "standin":
        if fails == 0:
            return sign, [(behind, number) for behind in world.goes[state] for number in (0, 1)]
        return told[fails - 1], [(behind, fails + 1 if fails < len(told) else 1) for behind in world.goes[state]]
    if word == "restart":
        later = [(behind, fails) for behind in world.goes[state]]
        return sign, later + ([(min(world.begins), fails + 1)] if fails < told else [])
    if fails:
        return sign, [(behind, fails - 1) for behind in world.goes[state]]
    later = [(behind, 0) for behind in world.goes[state]] + [(state, told - 1)]
    return sign, later + [(last, told - 1) for behind in world.goes[state] for last in world.goes[behind]]


def told_failing(world, way, mark=None):
    """The failing world by the words of the document (None if it is too large), and its states."""
    found = {(state, 0) for state in world.begins}
    if way[0] in ("glass", "lame", "standin"):
        found |= {(state, 1) for state in world.begins}
    waiting = sorted(found)
    while waiting:
        for later in step_of(world, way, *waiting.pop())[1]:
            if later not in found:
                found.add(later)
                waiting.append(later)
    places = sorted(found)
    numbers = {place: number for number, place in enumerate(places)}
    shows = "".join(step_of(world, way, *place)[0] for place in places)
    goes = [sorted({numbers[later] for later in step_of(world, way, *place)[1]}) for place in places]
    marks = [mark if mark is not None and fails else world.marks[state] for state, fails in places]
    begins = [numbers[place] for place in places if place[0] in world.begins]
    return World(shows, goes, begins, marks) if len(places) <= 96 else None, places


def rows_shown(world, many):
    """All rows of nights of so many beats."""
    return {row for row in rows_of(many) if world.ends(row)}


class TestFailing(unittest.TestCase):
    def check(self, world, way, mark=None):
        self.assertEqual(failing(world, way, mark=mark), told_failing(world, way, mark)[0], (way, mark))

    def test_no_way_at_all(self):
        world = World("wg.", [(1,), (0,), (2,)], (0,), ("a", "b", "c"))
        self.assertIs(failing(world), world)
        self.assertIs(failing(world, mark="x"), world)

    def test_glass(self):
        world = World("wg", [(1,), (0,)], (0,), ("a", "b"))
        # The states are (0, 0), (0, 1), (1, 0), (1, 1).
        self.assertEqual(failing(world, ("glass", "w.r.")), World(
            "w.g.", [(2, 3), (3,), (0, 1), (1,)], (0, 1), ("a", "a", "b", "b")))
        self.assertEqual(failing(world, ["glass", "w.r."], mark="x").marks, ("a", "x", "b", "x"))
        out = failing(ring("w..g", "a"), ("glass", "...."))
        self.assertEqual(rows_shown(out, 3), {row for row in rows_of(3) if any(
            ("w..g" * 3)[at:at + left] + "." * (3 - left) == row for at in range(4) for left in range(4))})

    def test_lame(self):
        world = ring("w.", "a", 0)
        # Failing is 0, then 1 (no flash yet), 4 (the first one, and lit before), 3, 2 (the second one), 1 and so on.
        told, places = told_failing(world, ("lame", 2))
        self.assertEqual(places, [(0, 0), (0, 1), (0, 3), (1, 0), (1, 1), (1, 2), (1, 4)])
        self.assertEqual(failing(world, ("lame", 2)), told)
        self.assertEqual(told.shows, "ww.....")
        self.assertEqual(told.begins, (0, 1, 2))
        self.assertIn("w...w...w", rows_shown(told, 9))
        # A flash that is longer than one beat is dark as a whole, whatever its signs.
        row = failing(ring("wg.", "a", 0), ("lame", 3))
        self.assertTrue(row.ends("wg.wg....wg.wg....wg."))
        self.assertFalse(row.ends("wg.wg..g."))
        for number in (2, 3, 4):
            self.check(ring("wg.r", "a"), ("lame", number))
            self.check(ring("w", "a"), ("lame", number), "x")

    def test_standin(self):
        told = failing(ring("w", "a"), ("standin", "g.r"))
        self.assertEqual(told, World("wg.r", [(0, 1), (2,), (3,), (1,)], (0, 1, 2, 3), ("a",) * 4))
        self.assertEqual(failing(ring("w", "a"), ("standin", "g.r"), mark="").marks, ("a", "", "", ""))
        self.assertTrue(told.ends("wwwg.rg.r"))
        self.assertTrue(told.ends("rg."))
        self.assertFalse(told.ends("w.r"))

    def test_restart(self):
        world = World("wgr", [(1,), (2,), (0,)], (1, 2), ("a", "b", "c"))
        told = failing(world, ("restart", 1))
        # The states are (0, 0), (0, 1), (1, 0), (1, 1), (2, 0), (2, 1); it begins anew with the state 1.
        self.assertEqual(told, World("wwggrr", [(2, 3), (3,), (3, 4), (5,), (0, 3), (1,)], (2, 3, 4, 5),
                                     ("a", "a", "b", "b", "c", "c")))
        self.assertEqual(failing(world, ("restart", 1), mark="x").marks, ("a", "x", "b", "x", "c", "x"))
        self.assertEqual(len(failing(world, ("restart", 3))), 12)
        twice = failing(ring("w..", "a", 0), ("restart", 2))
        self.assertTrue(twice.ends("w.w.w..w.."))
        self.assertFalse(failing(ring("w..", "a", 0), ("restart", 1)).ends("w.w.w.."))

    def test_slip(self):
        world = ring("wgr.", "a", 0)
        told, places = told_failing(world, ("slip", 2))
        self.assertEqual(failing(world, ("slip", 2)), told)
        self.assertEqual(len(places), 8)
        self.assertTrue(told.ends("wwgrr."))
        self.assertFalse(told.ends("www"))
        self.assertTrue(told.ends("wr.w"))
        self.assertTrue(failing(world, ("slip", 3)).ends("wwgr"))
        self.assertTrue(failing(world, ("slip", 3)).ends("wwgrr"))
        self.assertFalse(failing(world, ("slip", 4)).ends("wwgrr"))
        self.assertEqual(failing(ring("w", "a"), ("slip", 9)), World(
            "w" * 9, [(0, 8)] + [(number,) for number in range(8)], tuple(range(9)), ("a",) * 9))

    def test_against_a_second_reckoning(self):
        checked = 0
        for seed in range(60):
            world = some_world(seed, 1 + seed % 6)
            for way in WAYS:
                for mark in (None, "", "x"):
                    if len(told_failing(world, way)[1]) <= 96:
                        self.check(world, way, mark)
                        checked = checked + 1
        self.assertGreater(checked, 2000)

    def test_what_the_world_shows_the_failing_world_shows(self):
        for seed in range(12):
            world = some_world(seed, 3)
            for way in WAYS:
                self.assertLessEqual(rows_shown(world, 3), rows_shown(failing(world, way), 3))

    def test_several_ways(self):
        world = ring("w.g", "a", 0)
        for seed in range(40):
            chance = random.Random(seed)
            ways = [chance.choice(WAYS[:6] + WAYS[10:14]) for _ in range(2)]
            told = told_failing(world, ways[0], "x")[0]
            if len(told_failing(told, ways[1])[1]) <= 96:
                self.assertEqual(failing(world, *ways, mark="x"), told_failing(told, ways[1], "x")[0])
        one, other = ("restart", 1), ("glass", "....")
        self.assertNotEqual(failing(world, one, other), failing(world, other, one))

    def test_the_beginning_anew_is_that_of_the_world_beneath(self):
        # The way before gave the world a beginning with a lesser number: it is the least of the beginnings then.
        world = World("wg", [(1,), (0,)], (1,), ("a", "b"))
        first = failing(world, ("glass", "rrrr"))
        self.assertEqual(failing(world, ("glass", "rrrr"), ("restart", 1)), told_failing(first, ("restart", 1))[0])

    def test_ninety_six_states(self):
        self.assertEqual(len(failing(ring("w" * 24, "a"), ("restart", 3))), 96)
        world = either(ring("w" * 24, "a"), ring("w" * 24, "b"))
        self.assertEqual(len(failing(world, ("glass", "...."))), 96)
        more = either(world, ring("g", "c"))
        self.assertEqual(error_of(failing, more, ("glass", "....")), ("TooMany", "state"))
        self.assertEqual(error_of(failing, ring("w" * 24, "a"), ("slip", 5)), ("TooMany", "state"))
        self.assertEqual(len(failing(ring("w" * 24, "a"), ("slip", 4))), 96)
        self.assertEqual(len(failing(ring("w" * 12, "a"), ("slip", 8))), 96)
        self.assertEqual(error_of(failing, World("w" * 96, [(state,) for state in range(96)], tuple(range(96)), [""] * 96),
                                  ("standin", "w")), ("TooMany", "state"))
        chain = World("w" * 49, [(state + 1,) for state in range(48)] + [(48,)], (0,), ("",) * 49)
        self.assertEqual(len(failing(World("w" * 48, chain.goes[:47] + ((47,),), (0,), ("",) * 48), ("glass", "...."))), 96)
        self.assertEqual(error_of(failing, chain, ("glass", "....")), ("TooMany", "state"))
        # A world made on the way counts, too.
        self.assertEqual(error_of(failing, more, ("restart", 1), ("glass", "....")), ("TooMany", "state"))

    def test_ninety_seven_states(self):
        # One does not come back to the state 0: it does not fail yet, or it has just been stayed in.
        def world_of(many):
            goes = [(1,)] + [(state + 1,) for state in range(1, many)] + [(1,)]
            return World("w" * (many + 1), goes, (0,), ("",) * (many + 1))

        self.assertEqual(told_failing(world_of(4), ("slip", 5))[1][:3], [(0, 0), (0, 4), (1, 0)])
        self.assertEqual(len(failing(world_of(18), ("slip", 5))), 92)
        self.assertEqual(len(told_failing(world_of(19), ("slip", 5))[1]), 97)
        self.assertEqual(error_of(failing, world_of(19), ("slip", 5)), ("TooMany", "state"))

    def test_wrong_arguments(self):
        world = ring("w.", "a")
        big = either(ring("w" * 24, "a"), ring("w" * 24, "b"), ring("g", "c"))
        for odd in NO_WAYS:
            self.assertEqual(error_of(failing, world, odd), ("BadWay", 0))
            self.assertEqual(error_of(failing, big, ("glass", "...."), list(WAYS[4]), odd, odd, mark="?"), ("BadWay", 2))
        for odd in ODD + ("A", "abcdefghi", "-", ("a",)):
            if odd is None or odd == "" and isinstance(odd, str) or odd == "g":
                continue
            told = error_of(failing, big, ("glass", "...."), mark=odd)
            self.assertEqual(told[0], "BadMark")
            self.assertIs(told[1], odd)
            self.assertEqual(error_of(failing, world, mark=odd)[0], "BadMark")
        self.assertEqual(error_of(failing, big, ("glass", "...."), mark="x"), ("TooMany", "state"))

    def test_is_way(self):
        for way in WAYS:
            self.assertIs(is_way(way), True)
            self.assertIs(is_way(list(way)), True)
        for odd in NO_WAYS:
            self.assertIs(is_way(odd), False)


class TestLines(unittest.TestCase):
    def test_there_and_back(self):
        for way in WAYS:
            lines = write_ways((way,))
            self.assertIsInstance(lines, tuple)
            self.assertEqual(read_ways(lines), (way,))
        self.assertEqual(write_ways([list(way) for way in (WAYS[3], ("lame", 2), ("restart", 1), ("slip", 9))]),
                         ("glass wgr.", "lame 2", "restart 1", "slip 9"))
        self.assertEqual(write_ways((("standin", "w.w......."), ("standin", "gggrr"), ("standin", "."))),
                         ("standin w.w7.", "standin 3g2r", "standin ."))
        self.assertEqual(read_ways(["standin 2(w.)@10"]), (("standin", "w.w......."),))
        self.assertEqual(read_ways(["standin 3(2w.)r&."]), (("standin", "ww.ww.ww.r"),))
        self.assertEqual(write_ways(()), ())
        self.assertEqual(read_ways(()), ())
        self.assertEqual(len(read_ways(("lame 2",) * 50)), 50)
        self.assertEqual(write_ways(listed(tuple(WAYS))), write_ways(WAYS))

    def test_what_cannot_be_written(self):
        for odd in (None, 0, True, "glass", "", {}, {("lame", 2): 1}, object()):
            self.assertEqual(error_of(write_ways, odd), ("BadWay", -1))
        for odd in NO_WAYS:
            self.assertEqual(error_of(write_ways, (odd,)), ("BadWay", 0))
            self.assertEqual(error_of(write_ways, [("lame", 2), odd, odd]), ("BadWay", 1))

    def test_bad_lines(self):
        for line, word in (("", 0), ("glas ....", 0), ("Glass ....", 0), (" glass ....", 0), ("glass", 1), ("glass ...", 1),
                           ("glass .....", 1), ("glass ...x", 1), ("glass .... ", 2), ("glass  ....", 1), ("glass .... 1", 2),
                           ("lame", 1), ("lame 0", 1), ("lame 10", 1), ("lame 02", 1), ("lame x", 1), ("lame -2", 1),
                           ("lame 2 2", 2), ("standin", 1), ("standin w w", 2), ("restart", 1), ("restart 0", 1),
                           ("restart 12", 1), ("slip", 1), ("slip 10", 1), ("slip +2", 1), ("slip 2 ", 2), ("lame 2.0", 1)):
            self.assertEqual(error_of(read_ways, (line,)), ("BadLine", 0, word), line)
            self.assertEqual(error_of(read_ways, ("lame 2", line, None)), ("BadLine", 1, word), line)
        for odd in (None, 0, "lame 2", {}, True):
            self.assertEqual(error_of(read_ways, odd), ("BadLine", 0, 0))
        self.assertEqual(error_of(read_ways, ("lame 2", 7)), ("BadLine", 1, 0))
        self.assertEqual(error_of(read_ways, ("lame 2", ("lame", 2))), ("BadLine", 1, 0))

    def test_rhythm_texts_that_are_refused(self):
        for text, cause in (("x", ("BadText", 0)), ("", ("BadText", 0)), ("2(w", ("BadText", 3)), ("w@", ("BadText", 2)),
                            ("1w", ("BadText", 0)), ("w&", ("BadText", 2)), ("5(5w)", ("TooLong", 25)),
                            ("5w&7g", ("TooLong", 35))):
            try:
                read_ways(("slip 2", "standin " + text, "x"))
            except BadLine as error:
                self.assertEqual((error.line, error.word), (1, 1))
                self.assertIsInstance(error.__cause__, (BadText, TooLong))
                self.assertEqual((type(error.__cause__).__name__,) + tuple(vars(error.__cause__).values()), cause)
            else:
                self.fail(text)
        try:
            read_ways(("standin",))
        except BadLine as error:
            self.assertIsNone(error.__cause__)

    def test_bad_ways_when_all_is_read(self):
        for line in ("lame 1", "lame 5", "restart 4", "slip 1"):
            self.assertEqual(error_of(read_ways, ("lame 2", line, line)), ("BadWay", 1))
            self.assertEqual(error_of(read_ways, ("lame 2", line, "x")), ("BadLine", 2, 0))


if __name__ == "__main__":
    unittest.main()
