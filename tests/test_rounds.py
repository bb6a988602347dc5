"""Points 2 and 9: rounds, rhythms, moments, parting, and rounds over one another."""

import itertools
import random
import unittest

from falseglim.rhythmtext import read_round
from falseglim.rounds import alike, laid_over, least_round, moments, parting, rhythm, turned
from tests.helpers import SIGNS, error_of, rows_of

LONG = 24 * 23
# Rounds of up to four signs part within 12 beats, or never.
NEAR = 24
SHORT = [row for many in range(1, 5) for row in rows_of(many, ".gw")]


def shown(row, beats=NEAR):
    """What a round shows for so many beats."""
    return "".join(row[beat % len(row)] for beat in range(beats))


class TestRounds(unittest.TestCase):
    def test_examples(self):
        self.assertEqual(least_round("w.w."), "w.")
        self.assertEqual(least_round("wwww"), "w")
        self.assertEqual(least_round("w.w"), "w.w")
        self.assertEqual(rhythm("w..w.."), "..w")
        self.assertEqual(rhythm("gr"), "gr")
        self.assertEqual(rhythm("rg"), "gr")
        self.assertEqual(turned("wgr", 1), "grw")
        self.assertEqual(turned("wgwg", 1), "gwgw")
        self.assertIs(alike("w.", "w.w."), True)
        self.assertIs(alike("w.", ".w"), False)
        self.assertEqual(moments("gw", "wg"), (1,))
        self.assertEqual(moments("gw", "wgwgwg"), (1,))
        self.assertEqual(moments("ww", "w"), (0,))
        self.assertEqual(moments("w", "g"), ())
        self.assertEqual(parting("w.", "w.w"), 3)
        self.assertIsNone(parting("w.w.", "w."))
        self.assertEqual(laid_over("w..", ".g"), "wg.w.g")

    def test_least_rounds(self):
        for row in SHORT:
            alike_ones = [other for other in SHORT if shown(other) == shown(row)]
            self.assertEqual(least_round(row), min(alike_ones, key=len))
        self.assertEqual(least_round("w.g" * 8), "w.g")
        self.assertEqual(least_round("w" * 23 + "g"), "w" * 23 + "g")

    def test_rhythms(self):
        for row in SHORT:
            least = least_round(row)
            self.assertEqual(rhythm(row), min(least[at:] + least[:at] for at in range(len(least))))

    def test_turned(self):
        for row in SHORT:
            for beats in range(9):
                self.assertEqual(shown(turned(row, beats)), shown(row, NEAR + beats)[beats:])
                self.assertEqual(len(turned(row, beats)), len(row))
        self.assertEqual(turned("wgr", 10 ** 39), "grw")
        self.assertEqual(turned("wgr", 10 ** 40 - 1), "wgr")
        self.assertEqual(turned("w", 0), "w")

    def test_pairs_of_rounds(self):
        for first, second in itertools.product(SHORT, repeat=2):
            here, there = shown(first), shown(second)
            self.assertIs(alike(first, second), here == there)
            told = next((beat for beat in range(NEAR) if here[beat] != there[beat]), None)
            self.assertEqual(parting(first, second), told)
            found = tuple(beats for beats in range(len(least_round(second)))
                          if shown(turned(second, beats)) == here)
            self.assertEqual(moments(first, second), found)
            self.assertEqual(laid_over(first, second), read_round(first + "&" + second))

    def test_long_rounds(self):
        self.assertEqual(parting("w" * 23 + ".", "w" * 23), 23)
        self.assertEqual(parting("w" * 24, "w" * 23 + "g"), 22 + 1)
        self.assertEqual(parting("." * 23, "." * 23 + "w"), 23)
        chance = random.Random(5)
        for _ in range(300):
            first, second = ["".join(chance.choice(".w") for _ in range(chance.choice((3, 6, 12, 8, 24, 5))))
                             for _ in range(2)]
            self.assertEqual(error_of(laid_over, first, second), error_of(read_round, first + "&" + second))
            self.assertEqual(parting(first, second), self.parting_told(first, second))
        # Rounds that are alike for long.
        self.assertEqual(parting("wwgww", "wwgwwwwg"), 10)
        self.assertEqual(parting("." * 12, "." * 23 + "g"), 23)
        first, second = "w.ww.w.ww.ww.", "w.ww.w.w"
        self.assertEqual(parting(first, second), self.parting_told(first, second))

    def parting_told(self, first, second):
        here, there = shown(first, LONG), shown(second, LONG)
        return next((beat for beat in range(LONG) if here[beat] != there[beat]), None)

    def test_laid_over_too_long(self):
        self.assertEqual(len(laid_over("w" + "." * 7, "." * 12)), 24)
        self.assertEqual(len(laid_over("w" * 24, "w" * 24)), 24)
        self.assertEqual(error_of(laid_over, "w....", "g......"), ("TooLong", 35))
        self.assertEqual(error_of(laid_over, "w" * 24, "w" * 23), ("TooLong", 552))
        self.assertEqual(error_of(laid_over, "w" * 5, "w" * 5 + "."), ("TooLong", 30))

    def test_bad_rounds(self):
        for odd in (None, 1, True, ("w",), ["w"], "", "w" * 25, "x" * 25, b"w"):
            for call in (least_round, rhythm):
                self.assertEqual(error_of(call, odd), ("BadRound", -1))
            self.assertEqual(error_of(turned, odd, None), ("BadRound", -1))
            for call in (alike, moments, parting, laid_over):
                self.assertEqual(error_of(call, odd, "wx"), ("BadRound", -1))
                self.assertEqual(error_of(call, "wx", odd), ("BadRound", 1))
                self.assertEqual(error_of(call, "w", odd), ("BadRound", -1))
        for call in (least_round, rhythm):
            self.assertEqual(error_of(call, "w.G"), ("BadRound", 2))
        for call in (alike, moments, parting, laid_over):
            self.assertEqual(error_of(call, "w", "w.G"), ("BadRound", 2))
            self.assertEqual(error_of(call, "x", "w.G"), ("BadRound", 0))
        self.assertEqual(error_of(turned, "w.x", -1), ("BadRound", 2))

    def test_bad_beats(self):
        for odd in (-1, None, True, False, 1.0, "1", (1,), -10 ** 39):
            self.assertEqual(error_of(turned, "w.", odd), ("BadBeats", odd))

    def test_all_signs(self):
        for sign in SIGNS:
            self.assertEqual(rhythm(sign), sign)


if __name__ == "__main__":
    unittest.main()
