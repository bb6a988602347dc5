"""Points 1, 2 and 3: signs, rows, marks, worlds and nights."""

import itertools
import unittest

from falseglim.worlds import World
from tests.helpers import ODD, error_of, rows_to, some_world


def nights(world, beats):
    """All nights of so many beats."""
    found = [(state,) for state in world.begins]
    for _ in range(beats):
        found = [night + (later,) for night in found for later in world.goes[night[-1]]]
    return found


class TestWorld(unittest.TestCase):
    def setUp(self):
        self.world = World("w.g", ((1,), (0, 2), (2,)), (0, 1), ("a", "", "b7"))

    def test_attributes(self):
        self.assertEqual(self.world.shows, "w.g")
        self.assertEqual(self.world.goes, ((1,), (0, 2), (2,)))
        self.assertEqual(self.world.begins, (0, 1))
        self.assertEqual(self.world.marks, ("a", "", "b7"))

    def test_items(self):
        self.assertEqual(len(self.world), 3)
        self.assertEqual(self.world[1], (".", (0, 2), ""))
        self.assertEqual(list(self.world), [("w", (1,), "a"), (".", (0, 2), ""), ("g", (2,), "b7")])
        for odd in (3, -1, True, False, None, "0", (0,), 1.0, slice(0, 1), 10 ** 39):
            self.assertEqual(error_of(lambda: self.world[odd]), ("NoState", odd))

    def test_lists_are_kept_as_tuples_and_not_changed(self):
        goes, begins, marks = [[1], (0,)], [0, 1], ["a", "b"]
        world = World("w.", goes, begins, marks)
        self.assertEqual((goes, begins, marks), ([[1], (0,)], [0, 1], ["a", "b"]))
        goes[0].append(5)
        goes.append(3)
        begins.clear()
        marks[0] = 7
        self.assertEqual((world.goes, world.begins, world.marks), (((1,), (0,)), (0, 1), ("a", "b")))
        self.assertEqual(world[0], ("w", (1,), "a"))
        self.assertEqual(world, World("w.", ((1,), (0,)), (0, 1), ("a", "b")))

    def test_equal(self):
        parts = ["w.g", ((1,), (0, 2), (2,)), (0, 1), ("a", "", "b7")]
        self.assertEqual(self.world, World(*parts))
        self.assertFalse(self.world != World(*parts))
        for at, other in enumerate(("w..", ((1,), (0,), (2,)), (0,), ("a", "", "b"))):
            self.assertNotEqual(self.world, World(*(parts[:at] + [other] + parts[at + 1:])))
        for odd in ODD + (parts, tuple(parts)):
            self.assertIs(self.world == odd, False)

    def test_shows(self):
        rest = (((0,),), (0,), ("",))
        for odd in (None, 0, True, ["w"], ("w",), b"w", "", "w" * 97):
            self.assertEqual(error_of(World, odd, *rest), ("BadShows", -1))
        self.assertEqual(error_of(World, "wx,", *rest), ("BadShows", 1))
        self.assertEqual(error_of(World, "W", *rest), ("BadShows", 0))
        self.assertEqual(error_of(World, "x" * 97, *rest), ("BadShows", -1))
        self.assertEqual(error_of(World, "w" * 96 + "x", *rest), ("BadShows", -1))

    def test_one_and_many_states(self):
        self.assertEqual(len(World("w", [[0]], [0], [""])), 1)
        all_states = tuple(range(96))
        world = World("w" * 96, (all_states,) * 96, all_states, ("",) * 96)
        self.assertEqual((len(world), world.reached), (96, all_states))
        self.assertEqual(error_of(World, "w" * 97, (all_states,) * 97, all_states, ("",) * 97), ("BadShows", -1))

    def test_goes(self):
        for odd in (None, 0, "ab", {}, (), ((0,),), ((0,), (1,), (0,)), [[0]]):
            self.assertEqual(error_of(World, "w.", odd, (0,), ("", "")), ("BadGoes", -1))
        for odd in (None, 0, "0", (), [], (2,), (-1,), (-1, 0), (0, 2), (0, 0), (1, 0), (True,), (False, 1), (0, 1.0), ("0",), {0: 0},
                    (0, 10 ** 39), ((0,),)):
            self.assertEqual(error_of(World, "w.", ((0,), odd), (), ()), ("BadGoes", 1))
            self.assertEqual(error_of(World, "w.", (odd, odd), (), ()), ("BadGoes", 0))
        for odd in ((0, 2, 1), (1, 0, 2), (0, 1, 1), (0, 1, 2, 3), (0, 1, 2, 2)):
            self.assertEqual(error_of(World, "w.g", ((0,), (1,), odd), (), ()), ("BadGoes", 2))

    def test_begins(self):
        for odd in (None, 0, "0", (), [], [2], (-1,), (-1, 1), (0, 2), (0, 0), [1, 0], (True,), (False, 1), {0: 0}):
            self.assertEqual(error_of(World, "w.", ((0,), (1,)), odd, None), ("BadBegins", odd))
        passed = [1, [0]]
        try:
            World("w.", ((0,), (1,)), passed, ())
        except ValueError as error:
            self.assertIs(error.begins, passed)

    def test_marks(self):
        for odd in (None, "ab", ("a",), ["a", "b", "c"], {}):
            self.assertEqual(error_of(World, "w.", ((0,), (1,)), (0,), odd), ("BadMarks", -1))
        for odd in (None, 1, "A", "a b", "a" * 9, "-", "_", ("a",), b"a", True):
            self.assertEqual(error_of(World, "w.", ((0,), (1,)), (0,), ("", odd)), ("BadMarks", 1))
        self.assertEqual(World("w.", ((0,), (1,)), (0,), ["abcdefgh", "09z"]).marks, ("abcdefgh", "09z"))

    def test_the_order_of_the_errors(self):
        self.assertEqual(error_of(World, "x", (), (), ()), ("BadShows", 0))
        self.assertEqual(error_of(World, "w", (), (), ()), ("BadGoes", -1))
        self.assertEqual(error_of(World, "w", ((0,),), (), ()), ("BadBegins", ()))
        self.assertEqual(error_of(World, "w", ((0,),), (0,), ()), ("BadMarks", -1))

    def test_reached(self):
        world = World("wgr.", ((1,), (0,), (3,), (0,)), (0,), ("",) * 4)
        self.assertEqual(world.reached, (0, 1))
        self.assertEqual(World("wgr.", ((1,), (0,), (3,), (0,)), (2,), ("",) * 4).reached, (0, 1, 2, 3))
        for seed in range(40):
            world = some_world(seed, 7)
            found = {night[-1] for beats in range(8) for night in nights(world, beats)}
            self.assertEqual(world.reached, tuple(sorted(found)))

    def test_steady(self):
        self.assertIs(World("w.", ((1,), (0,)), (0,), ("a", "a")).is_steady, True)
        self.assertIs(World("w.", ((1,), (0,)), (0,), ("a", "b")).is_steady, False)
        self.assertIs(World("w.", ((1,), (0,)), (0,), ("a", "")).is_steady, False)
        # States that are not come to do not matter.
        self.assertIs(World("w.g", ((1,), (0,), (0,)), (0,), ("a", "a", "b")).is_steady, True)
        self.assertIs(World("w.g", ((0,), (1,), (0,)), (0, 1), ("a", "b", "")).is_steady, True)

    def test_ends(self):
        for seed in range(25):
            world = some_world(seed, 5, signs=".w")
            for row in rows_to(5, ".w"):
                found = {night[-1] for night in nights(world, len(row))
                         if "".join(world.shows[state] for state in night[:-1]) == row}
                self.assertEqual(world.ends(row), tuple(sorted(found)))

    def test_ends_of_odd_rows(self):
        world = World("w.", ((1,), (0,)), (0,), ("", ""))
        self.assertEqual(world.ends(""), (0,))
        self.assertEqual(world.ends("w"), (1,))
        self.assertEqual(world.ends("."), ())
        self.assertEqual(world.ends("w." * 200), (0,))
        self.assertEqual(error_of(world.ends, "w." * 200 + "w"), ("BadRow", -1))
        self.assertEqual(error_of(world.ends, "x" * 401), ("BadRow", -1))
        self.assertEqual(error_of(world.ends, "w.x."), ("BadRow", 2))
        self.assertEqual(error_of(world.ends, "w" * 399 + "W"), ("BadRow", 399))
        for odd in (None, 0, True, ("w",), ["w"], b"w"):
            self.assertEqual(error_of(world.ends, odd), ("BadRow", -1))


class TestSigns(unittest.TestCase):
    def test_all_characters(self):
        for char in (chr(number) for number in range(32, 127)):
            told = error_of(World, char, ((0,),), (0,), (char,))
            if char not in ".grw":
                self.assertEqual(told, ("BadShows", 0))
            elif char == ".":
                self.assertEqual(told, ("BadMarks", 0))
            else:
                self.assertEqual(told.marks, (char,))

    def test_all_marks_of_one_character(self):
        letters = "abcdefghijklmnopqrstuvwxyz0123456789"
        for char, many in itertools.product((chr(number) for number in range(32, 127)), (1, 8)):
            told = error_of(World, "w", ((0,),), (0,), (char * many,))
            if char in letters:
                self.assertEqual(told.marks, (char * many,))
            else:
                self.assertEqual(told, ("BadMarks", 0))


if __name__ == "__main__":
    unittest.main()
