"""Point 15: what can have been shown behind a look."""

import itertools
import math
import random
import types
import unittest

from falseglim.backs import Backs
from falseglim.eyes import Eye
from falseglim.weathers import eye_of
from tests.helpers import ODD, SIGNS, error_of, rows_of, seen_as, some_eye

BLUR = Eye([(0, shown, seen, 0) for shown in SIGNS for seen in SIGNS])


def forgetful(many):
    """An eye that sees nothing, and holds possible each of the last beats at which white was shown."""
    entries = [(0, sign, ".", 0) for sign in SIGNS] + [(0, "w", ".", 1)]
    entries += [(state, sign, ".", state + 1 if state < many else 0) for state in range(1, many + 1) for sign in SIGNS]
    return Eye(entries)


def sets_come_to(eye, look):
    """How many sets of states there are at each beat."""
    level, found = {(0,)}, []
    for seen in look:
        level = {tuple(sorted({entry[3] for entry in eye.entries if entry[0] in states and entry[1:3] == (shown, seen)}))
                 for states in level for shown in SIGNS} - {()}
        found.append(len(level))
    return found


def blind_eye(text):
    """An eye that sees nothing; for each state four words of letters tell where the four signs lead."""
    return Eye([(state, sign, ".", ord(letter) - ord("a")) for state, words in enumerate(text.split("/"))
                for sign, word in zip(SIGNS, words.split(" ")) for letter in word])


# Behind nine beats of the first one there are 400 sets of states, behind eleven of the second 401, ahead of them less.
EYE_OF_400 = blind_eye("j i a d/e k k k/d ch f e/h ah i c/a k d j/h a c j/cf b e f/ch i bik i/b g a f/bf dj c e/"
                       "c i ej e")
EYE_OF_401 = blind_eye("f c l f/c e g e/j a l i/e k f l/j b f a/i a b jl/eh f l a/f k h a/a d f bh/c f c ij/"
                       "b h f b/e c j b")


class TestBacks(unittest.TestCase):
    def test_attributes(self):
        eye = eye_of((("miss", 1, 3),))
        backs = Backs(eye, "..g")
        self.assertIs(backs.eye, eye)
        self.assertEqual(backs.look, "..g")
        self.assertEqual((backs.number, backs.first, backs.last), (7, "..g", "w.g"))
        self.assertEqual(backs.sure, (None, None, "g"))

    def test_the_empty_look(self):
        backs = Backs(Eye.fair(), "")
        self.assertEqual((backs.number, backs.first, backs.last, backs.sure), (1, "", "", ()))
        self.assertEqual(list(backs.each_row()), [""])
        self.assertIn("", backs)
        self.assertNotIn("w", backs)

    def test_a_look_that_cannot_be(self):
        backs = Backs(eye_of((("always", "w", "r"),)), ".gw.")
        self.assertEqual((backs.number, backs.first, backs.last, backs.sure), (0, None, None, (None,) * 4))
        self.assertEqual(list(backs.each_row()), [])
        for row in rows_of(4):
            self.assertNotIn(row, backs)

    def test_against_all_rows(self):
        impossible = 0
        for seed in range(40):
            eye = some_eye(seed, 3, more=4)
            for look in random.Random(seed).sample(rows_of(4), 12) + ["....", "..", "g"]:
                told = [row for row in rows_of(len(look)) if seen_as(eye, row, look)]
                backs = Backs(eye, look)
                self.assertEqual(backs.number, len(told))
                self.assertEqual(backs.first, told[0] if told else None)
                self.assertEqual(backs.last, told[-1] if told else None)
                self.assertEqual(backs.sure, tuple(
                    signs.pop() if len(signs) == 1 else None
                    for signs in ({row[at] for row in told} for at in range(len(look)))))
                self.assertEqual(list(backs.each_row()), told)
                for row in rows_of(len(look)):
                    self.assertIs(row in backs, row in told)
                impossible = impossible + (not told)
        self.assertGreater(impossible, 20)

    def test_rows_that_are_not_in_it(self):
        backs = Backs(eye_of((("lose", 1),)), "..")
        self.assertIn("w.", backs)
        for odd in ODD + ("..x", ".x", "xx", "w..", ".", "ww", ("w", "."), ["w", "."], b"w.", "W.", "." * 401):
            self.assertIs(odd in backs, False)

    def test_the_generator(self):
        backs = Backs(BLUR, "w" * 24)
        self.assertEqual(backs.number, 4 ** 24)
        self.assertEqual((backs.first, backs.last), ("." * 24, "w" * 24))
        self.assertEqual(backs.sure, (None,) * 24)
        self.assertIsInstance(backs.each_row(), types.GeneratorType)
        told = list(itertools.islice(backs.each_row(), 70))
        self.assertEqual(told, ["." * 21 + row for row in rows_of(3)] + ["." * 20 + "g.." + sign for sign in SIGNS]
                         + ["." * 20 + "g.g" + sign for sign in ".g"])
        # Two of them do not disturb one another.
        both = list(itertools.islice(zip(backs.each_row(), backs.each_row()), 20))
        self.assertEqual([first for first, _ in both], [second for _, second in both])

    def test_the_generator_finds_rows_behind_many_that_fail(self):
        # What is shown at first is told only by the end of the look.
        late = eye_of((("late",),))
        backs = Backs(late, "." + "w" * 23)
        self.assertEqual(backs.number, 4)
        self.assertEqual(list(backs.each_row()), ["w" * 23 + sign for sign in SIGNS])
        self.assertEqual(backs.sure, ("w",) * 23 + (None,))

    def test_looks_of_twenty_four_signs_and_more(self):
        self.assertEqual(Backs(Eye.fair(), "w" * 24).number, 1)
        self.assertEqual(error_of(Backs, Eye.fair(), "w" * 25), ("TooLong", 25))
        self.assertEqual(error_of(Backs, Eye.fair(), "w" * 400), ("TooLong", 400))
        self.assertEqual(error_of(Backs, Eye.fair(), "w" * 401), ("BadRow", -1))
        self.assertEqual(error_of(Backs, Eye.fair(), "w" * 30 + "x"), ("BadRow", 30))
        for odd in (None, 0, True, ("w",), ["w"], b"w"):
            self.assertEqual(error_of(Backs, Eye.fair(), odd), ("BadRow", -1))

    def test_too_many_sets(self):
        self.assertEqual(Backs(forgetful(8), "." * 24).number, 4 ** 24)
        self.assertEqual(max(sets_come_to(forgetful(8), "." * 24)), 256)
        self.assertEqual(error_of(Backs, forgetful(9), "." * 24), ("TooMany", "set"))
        # The sets behind the last beat count as well.
        self.assertEqual(sets_come_to(forgetful(9), "." * 9), [2, 4, 8, 16, 32, 64, 128, 256, 512])
        self.assertEqual(error_of(Backs, forgetful(9), "." * 9), ("TooMany", "set"))
        self.assertEqual(Backs(forgetful(9), "." * 8).number, 4 ** 8)

    def test_too_many_sets_whether_the_look_can_be_or_not(self):
        self.assertEqual(Backs(forgetful(9), "." * 8 + "w").number, 0)
        self.assertEqual(error_of(Backs, forgetful(9), "." * 9 + "w"), ("TooMany", "set"))

    def test_four_hundred_sets_and_more(self):
        told = sets_come_to(EYE_OF_400, "." * 9)
        self.assertEqual((told[-1], max(told)), (400, 400))
        self.assertEqual(Backs(EYE_OF_400, "." * 9).number, 4 ** 9)
        told = sets_come_to(EYE_OF_401, "." * 11)
        self.assertEqual((told[-1], max(told[:-1]) < 400), (401, True))
        self.assertEqual(Backs(EYE_OF_401, "." * 10).number, 4 ** 10)
        self.assertEqual(error_of(Backs, EYE_OF_401, "." * 11), ("TooMany", "set"))

    def test_numbers_of_none_one_and_very_many_rows(self):
        glow = eye_of((("glow",),))
        self.assertEqual(Backs(glow, "gr").number, 1)
        self.assertEqual(Backs(Eye.fair(), "w" * 24).number, 1)
        self.assertEqual(Backs(eye_of((("always", "w", "r"),)), "r.w" * 8).number, 0)
        self.assertEqual(Backs(BLUR, "r" * 24).number, 4 ** 24)
        # Each of the 24 beats can have been lit, but no more than nine of them.
        lost = eye_of((("lose", 9),))
        self.assertEqual(Backs(lost, "." * 24).number, sum(math.comb(24, many) * 3 ** many for many in range(10)))
        # Either of two beats that follow one another was dark.
        counts = [1, 4]
        for _ in range(23):
            counts.append(counts[-1] + 3 * counts[-2])
        self.assertEqual(Backs(eye_of((("miss", 1, 2),)), "." * 24).number, counts[-1])

    def test_numbers_count_rows_and_not_ways(self):
        # Two ways of the eye let the same row be seen.
        eye = Eye([(0, sign, sign, later) for sign in SIGNS for later in (0, 1)]
                  + [(1, sign, sign, later) for sign in SIGNS for later in (0, 1)])
        self.assertEqual(Backs(eye, "wg.r").number, 1)
        self.assertEqual(list(Backs(eye, "wg.r").each_row()), ["wg.r"])


if __name__ == "__main__":
    unittest.main()
