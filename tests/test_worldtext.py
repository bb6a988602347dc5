"""Point 10: lines of words, of worlds and of eyes."""

import unittest

from falseglim.errors import BadLine
from falseglim.eyes import Eye
from falseglim.makers import either, marked, ring
from falseglim.worlds import World
from falseglim.worldtext import read_eye, read_world, write_eye, write_world
from tests.helpers import SIGNS, error_of, some_eye, some_world

EXAMPLE = ("state w alpha 1", "state . alpha 2", "state . alpha 0", "begin 0 1 2")
CLEAR = ("entry 0 . . 0", "entry 0 g g 0", "entry 0 r r 0", "entry 0 w w 0")


class TestWorldText(unittest.TestCase):
    def bad(self, lines, line, word):
        self.assertEqual(error_of(read_world, lines), ("BadLine", line, word), lines)

    def test_example(self):
        self.assertEqual(write_world(ring("w..", "alpha")), EXAMPLE)
        self.assertEqual(read_world(EXAMPLE), ring("w..", "alpha"))
        self.assertEqual(read_world(list(EXAMPLE)), ring("w..", "alpha"))

    def test_there_and_back(self):
        for seed in range(40):
            world = some_world(seed, 1 + seed % 12)
            lines = write_world(world)
            self.assertIsInstance(lines, tuple)
            self.assertEqual(read_world(lines), world)
            self.assertEqual(write_world(read_world(lines)), lines)
        full = World("w" * 96, (tuple(range(96)),) * 96, tuple(range(96)), ("",) * 95 + ("a",))
        self.assertEqual(read_world(write_world(full)), full)

    def test_empty_mark(self):
        self.assertEqual(write_world(ring("g", "")), ("state g - 0", "begin 0"))
        self.assertEqual(read_world(("state g - 0", "begin 0")), ring("g", ""))
        self.assertEqual(write_world(either(ring("g", "0"), marked(ring("r", "a"), ""))),
                         ("state g 0 0", "state r - 1", "begin 0 1"))

    def test_things_that_are_no_lines(self):
        for odd in (None, 0, True, "state w - 0", "", {}, {0: "begin 0"}, object()):
            self.bad(odd, 0, 0)
            self.assertEqual(error_of(read_eye, odd), ("BadLine", 0, 0))

    def test_lines_that_are_no_strings(self):
        for odd in (None, 0, ("state", "w"), ["begin"], b"begin 0", True):
            self.bad((odd,), 0, 0)
            self.bad(("state w - 0", odd), 1, 0)
            self.bad(("state w - 0", "begin 0", odd), 2, 0)
            self.assertEqual(error_of(read_eye, CLEAR + (odd,)), ("BadLine", 4, 0))

    def test_lines_that_end_too_early(self):
        self.bad((), 0, 0)
        self.bad([], 0, 0)
        self.bad(("state w - 0",), 1, 0)
        self.bad(EXAMPLE[:3], 3, 0)

    def test_words_that_cannot_come(self):
        for first in ("", "State", "states", "begins", "end", "-", "0", "entry"):
            self.bad((first + " w - 0", "begin 0"), 0, 0)
            self.bad(("state w - 0", first + " 0"), 1, 0)
            self.bad(("state w - 0", "begin 0", first), 2, 0)
        self.bad(("state w - 0", "begin 0", "begin 0"), 2, 0)
        self.bad(("state w - 0", "begin 0", "state w - 0"), 2, 0)
        self.bad(("state w - 0", "begin 0", ""), 2, 0)

    def test_blanks(self):
        for line, word in (("", 0), (" ", 0), (" state w - 0", 0), ("state  w - 0", 1), ("state w  - 0", 2),
                           ("state w -  0", 3), ("state w - 0 ", 4), ("state w - ", 3), ("state ", 1), ("state w ", 2),
                           ("state\tw - 0", 0)):
            self.bad((line, "begin 0"), 0, word)
        self.bad(("state w - 0", "begin 0 "), 1, 2)
        self.bad(("state w - 0", "begin  0"), 1, 1)
        self.bad(("state w - 0", "begin "), 1, 1)

    def test_too_few_words(self):
        self.bad(("state", "begin 0"), 0, 1)
        self.bad(("state w", "begin 0"), 0, 2)
        # There can be no words where any number of them can stand; then the world itself is wrong.
        self.assertEqual(error_of(read_world, ("state w -", "begin 0")), ("BadGoes", 0))
        self.assertEqual(error_of(read_world, ("state w - 0", "begin")), ("BadBegins", ()))

    def test_words_in_themselves(self):
        for word in ("x", "gr", "-", "W", "0"):
            self.bad((f"state {word} - 0", "begin 0"), 0, 1)
        for word in ("A", "a-", "--", "abcdefghi", ".", "a_b"):
            self.bad((f"state w {word} 0", "begin 0"), 0, 2)
        for word in ("96", "00", "01", "-1", "+1", "1.0", "x", "-", "100", "9" * 1900, "1e1", "0x1"):
            self.bad((f"state w - {word}", "begin 0"), 0, 3)
            self.bad((f"state w - 0 {word}", "begin 0"), 0, 4)
            self.bad(("state w - 0", f"begin {word}"), 1, 1)
            self.bad(("state w - 0", f"begin 0 0 {word}"), 1, 3)
        self.bad(("state x A 99", "begin 0"), 0, 1)
        self.bad(("state w A 99", "begin 0"), 0, 2)

    def test_the_first_bad_word_of_the_first_bad_line(self):
        self.bad(("state w - 0", "state w - 99 x", "begin x"), 1, 3)
        self.bad(("state w - 7", "begin x", None), 1, 1)

    def test_the_errors_of_the_world_when_all_is_read(self):
        self.assertEqual(error_of(read_world, ("begin",)), ("BadShows", -1))
        self.assertEqual(error_of(read_world, ("begin 0",)), ("BadShows", -1))
        self.assertEqual(error_of(read_world, ("state w - 0",) * 97 + ("begin 0",)), ("BadShows", -1))
        self.assertEqual(error_of(read_world, ("state w - 0", "state w - 2", "begin 5")), ("BadGoes", 1))
        self.assertEqual(error_of(read_world, ("state w - 0", "state w - 1 0", "begin 0")), ("BadGoes", 1))
        self.assertEqual(error_of(read_world, ("state w - 0", "state w - 0 0", "begin 0")), ("BadGoes", 1))
        self.assertEqual(error_of(read_world, ("state w - 0", "begin 1")), ("BadBegins", (1,)))
        self.bad(("state w - 5", "begin 7", "x"), 2, 0)

    def test_the_lines_are_not_changed(self):
        lines = list(EXAMPLE)
        read_world(lines)
        self.assertEqual(lines, list(EXAMPLE))

    def test_the_error_has_no_cause(self):
        try:
            read_world(("state w - x",))
        except BadLine as error:
            self.assertIsNone(error.__cause__)
            self.assertEqual((error.line, error.word), (0, 3))


class TestEyeText(unittest.TestCase):
    def bad(self, lines, line, word):
        self.assertEqual(error_of(read_eye, lines), ("BadLine", line, word), lines)

    def test_there_and_back(self):
        self.assertEqual(write_eye(Eye.fair()), CLEAR)
        self.assertEqual(read_eye(list(CLEAR)), Eye.fair())
        self.assertEqual(read_eye(CLEAR[::-1]), Eye.fair())
        for seed in range(30):
            eye = some_eye(seed, 1 + seed % 6)
            self.assertIsInstance(write_eye(eye), tuple)
            self.assertEqual(read_eye(write_eye(eye)), eye)

    def test_states(self):
        lines = CLEAR + tuple(f"entry 29 {sign} . 0" for sign in SIGNS) + ("entry 0 w . 29",)
        self.assertEqual(read_eye(lines).states, (0, 29))
        self.bad(CLEAR + ("entry 30 w w 0",), 4, 1)
        self.bad(CLEAR + ("entry 0 w w 30",), 4, 4)

    def test_bad_lines(self):
        for line, word in (("", 0), ("entry", 1), ("entry 0", 2), ("entry 0 w", 3), ("entry 0 w w", 4),
                           ("entry 0 w w 0 0", 5), ("entry 0 w w 0 ", 5), (" entry 0 w w 0", 0), ("entry  0 w w 0", 1),
                           ("entry 00 w w 0", 1), ("entry 0 - w 0", 2), ("entry 0 w gr 0", 3), ("entry 0 w w -1", 4),
                           ("entry 0 w w 01", 4), ("state w - 0", 0), ("begin 0", 0), ("entry x x x x x", 1)):
            self.bad(CLEAR + (line,), 4, word)
            self.bad((line, None), 0, word)

    def test_the_errors_of_the_eye_when_all_is_read(self):
        self.assertEqual(error_of(read_eye, ()), ("Blind", 0, "."))
        self.assertEqual(error_of(read_eye, CLEAR[:2]), ("Blind", 0, "r"))
        self.assertEqual(error_of(read_eye, CLEAR + CLEAR[1:2]), ("BadEntry", 4))
        self.bad(CLEAR + CLEAR + ("x",), 8, 0)
        lines = [f"entry {a} {x} {y} {b}" for a in range(5) for x in SIGNS for y in SIGNS for b in range(5)]
        self.assertEqual(error_of(read_eye, lines), ("TooMany", "entry"))


if __name__ == "__main__":
    unittest.main()
