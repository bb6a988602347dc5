"""Point 11: weathers, their eyes and their lines."""

import itertools
import unittest

from falseglim.eyes import Eye
from falseglim.weathers import eye_of, is_weather, read_weathers, write_weathers
from falseglim.within import let_the_same
from tests.helpers import ODD, SIGNS, error_of, rows_of

LIT = "grw"
ALL = ([("lose", many) for many in range(1, 10)]
       + [("miss", many, beats) for beats in range(2, 9) for many in (1, 2) if many < beats]
       + [(word, sign, other) for word in ("take", "always") for sign in LIT for other in SIGNS if other != sign]
       + [("glow",), ("late",)])
NO_WEATHERS = ODD + (
    "glow", ("glow", 1), ("Glow",), ("lose",), ("lose", 0), ("lose", 10), ("lose", True), ("lose", "1"), ("lose", 1, 1),
    ("lose", 1.0), ("lose", None), ("miss", 1), ("miss", 1, 1), ("miss", 2, 2), ("miss", 3, 4), ("miss", 0, 3),
    ("miss", 1, 9), ("miss", True, 3), ("miss", 1, True), ("miss", 1, 3, 1), ("miss", (1,), 3), ("take", "w"),
    ("take", "w", "w"), ("take", ".", "w"), ("take", "w", "x"), ("take", "gr", "w"), ("take", "w", ".", 1),
    ("take", ["w"], "."), ("take", "w", None), ("always", "w", "w"), ("always", ".", "w"), ("always", "", "w"),
    ("always", "w", "gr"), ("late", 0), ("dim", 1), (("glow",),), {"glow": 1}, {"lose": 1}, (None,), ([],), ({},),
    (True,), ("lose", 10 ** 39))


def may_be(weather, shown, seen):
    """Whether a weather lets a row be seen as another one, by the words of the document."""
    word = weather[0]
    if word == "late":
        return (("." + shown)[:len(seen)]) == seen
    if word == "glow":
        return all(other == sign or (sign == "." and beat > 0 and shown[beat - 1] == other != ".")
                   for beat, (sign, other) in enumerate(zip(shown, seen)))
    if word == "take":
        return all(other == sign or (sign, other) == weather[1:] for sign, other in zip(shown, seen))
    if word == "always":
        return all(other == (weather[2] if sign == weather[1] else sign) for sign, other in zip(shown, seen))
    missed = [sign != "." and other == "." for sign, other in zip(shown, seen)]
    if not all(lost or sign == other for lost, sign, other in zip(missed, shown, seen)):
        return False
    if word == "lose":
        return sum(missed) <= weather[1]
    return all(sum(missed[at:at + weather[2]]) <= weather[1] for at in range(len(missed)))


class TestEyeOf(unittest.TestCase):
    def test_all_weathers_against_the_words(self):
        for weather in ALL:
            signs, beats = (".w", 5) if weather[0] in ("lose", "miss") else (SIGNS, 3)
            eye = eye_of((weather,))
            for shown, seen in itertools.product(rows_of(beats, signs), repeat=2):
                self.assertIs(eye(shown, seen), may_be(weather, shown, seen), (weather, shown, seen))

    def test_long_misses(self):
        for beats in range(2, 9):
            for many in (1, 2):
                if many < beats:
                    eye = eye_of((("miss", many, beats),))
                    for seen in rows_of(9, ".w"):
                        self.assertIs(eye("w" * 9, seen), may_be(("miss", many, beats), "w" * 9, seen))

    def test_no_weather(self):
        self.assertEqual(eye_of(()), Eye.fair())
        self.assertEqual(eye_of([]), Eye.fair())

    def test_states_and_entries(self):
        self.assertEqual(eye_of((("lose", 2),)).entries, tuple(sorted(
            [(lost, sign, sign, lost) for lost in range(3) for sign in SIGNS]
            + [(lost, sign, ".", lost + 1) for lost in range(2) for sign in LIT])))
        self.assertEqual(eye_of((("take", "r", "g"),)).entries, (
            (0, ".", ".", 0), (0, "g", "g", 0), (0, "r", "g", 0), (0, "r", "r", 0), (0, "w", "w", 0)))
        self.assertEqual(eye_of((("always", "r", "."),)).entries, (
            (0, ".", ".", 0), (0, "g", "g", 0), (0, "r", ".", 0), (0, "w", "w", 0)))
        self.assertEqual(eye_of((("glow",),)).entries, tuple(sorted(
            [(state, sign, sign, later) for state in range(4) for later, sign in enumerate(SIGNS)]
            + [(1, ".", "g", 0), (2, ".", "r", 0), (3, ".", "w", 0)])))
        self.assertEqual(eye_of((("late",),)).entries, tuple(sorted(
            [(state, sign, SIGNS[state], later) for state in range(4) for later, sign in enumerate(SIGNS)])))

    def test_states_of_a_miss(self):
        # The states are (), (1,), (1, 2), (2,) in this order.
        led = {0: (0, 1), 1: (3, 2), 2: (3, None), 3: (0, 1)}
        self.assertEqual(eye_of((("miss", 2, 3),)).entries, tuple(sorted(
            [(state, sign, sign, led[state][0]) for state in led for sign in SIGNS]
            + [(state, sign, ".", led[state][1]) for state in led for sign in LIT if led[state][1] is not None])))
        for beats in range(2, 9):
            ones = beats - 1
            self.assertEqual(eye_of((("miss", 1, beats),)).states, tuple(range(1 + ones)))
            if beats > 2:
                self.assertEqual(eye_of((("miss", 2, beats),)).states, tuple(range(1 + ones + ones * (ones - 1) // 2)))
        # () is 0, (1,) is 1, (1, 2) is 2, .., (1, 7) is 7, (2,) is 8, .., (6, 7) is 27, (7,) is 28.
        eye = eye_of((("miss", 2, 8),))
        self.assertEqual(eye.options(0, "w"), ((".", 1), ("w", 0)))
        self.assertEqual(eye.options(1, "w"), ((".", 2), ("w", 8)))
        self.assertEqual(eye.options(7, "w"), (("w", 8),))
        self.assertEqual(eye.options(27, "w"), (("w", 28),))
        self.assertEqual(eye.options(28, "w"), ((".", 1), ("w", 0)))

    def test_numbers_of_states(self):
        self.assertEqual([len(eye_of([weather]).states) for weather in ALL[:9]], list(range(2, 11)))
        self.assertEqual(len(eye_of((("miss", 2, 8),)).states), 29)

    def test_several_weathers(self):
        lose, glow, late, take = ("lose", 1), ("glow",), ("late",), ("take", "w", "r")
        self.assertEqual(eye_of((lose, take)), eye_of((lose,)) + eye_of((take,)))
        self.assertEqual(eye_of([list(take), late]), eye_of((take,)) + eye_of((late,)))
        three = (("always", "r", "g"), take, lose)
        self.assertEqual(eye_of(three), (eye_of(three[:1]) + eye_of(three[1:2])) + eye_of(three[2:]))
        # The first one is the nearest to the light.
        self.assertIs(eye_of((take, ("always", "r", "g")))("w", "g"), True)
        self.assertIs(eye_of((("always", "r", "g"), take))("w", "g"), False)
        self.assertIs(eye_of((glow, lose))("w.", ".w"), True)
        self.assertIs(eye_of((lose, glow))("w.", ".w"), False)
        self.assertIs(let_the_same(eye_of((lose, lose)), eye_of((("lose", 2),))), True)
        six = (take,) * 6
        self.assertIs(let_the_same(eye_of(six), eye_of((take,))), True)

    def test_too_many(self):
        self.assertEqual(error_of(eye_of, (("lose", 9), ("miss", 1, 4))), ("TooMany", "state"))
        self.assertEqual(error_of(eye_of, (("miss", 2, 8), ("lose", 1))), ("TooMany", "state"))
        self.assertEqual(error_of(eye_of, (("miss", 2, 8), ("take", "w", "r"), ("take", "w", "g"), ("take", "r", "g"),
                                           ("take", "g", "w"), ("take", "r", "w"))), ("TooMany", "entry"))
        # One join goes behind the other: what the first raises goes ahead.
        self.assertEqual(error_of(eye_of, (("miss", 2, 8), ("glow",), ("lose", 9))), ("TooMany", "state"))

    def test_bad_weathers(self):
        for odd in (None, 0, "glow", {}, {"glow": 1}, True, (("glow",),) * 7, [None] * 7):
            for call in (eye_of, write_weathers):
                self.assertEqual(error_of(call, odd), ("BadWeather", -1))
        for odd in NO_WEATHERS:
            for call in (eye_of, write_weathers):
                self.assertEqual(error_of(call, (odd,)), ("BadWeather", 0))
                self.assertEqual(error_of(call, [("glow",), ["late"], odd, odd]), ("BadWeather", 2))
        self.assertEqual(error_of(eye_of, (("lose", 9), ("miss", 2, 8), None)), ("BadWeather", 2))


class TestIsWeather(unittest.TestCase):
    def test_weathers(self):
        for weather in ALL:
            self.assertIs(is_weather(weather), True)
            self.assertIs(is_weather(list(weather)), True)

    def test_what_is_none(self):
        for odd in NO_WEATHERS:
            self.assertIs(is_weather(odd), False)
        count = 0
        for many, beats in itertools.product(range(-1, 11), repeat=2):
            count += is_weather(("miss", many, beats))
        self.assertEqual(count, 7 + 6)


class TestLines(unittest.TestCase):
    def test_there_and_back(self):
        for weather in ALL:
            lines = write_weathers([list(weather)])
            self.assertEqual(lines, (" ".join(str(word) for word in weather),))
            self.assertEqual(read_weathers(lines), (weather,))
        self.assertEqual(write_weathers((("miss", 1, 3), ("always", "w", "."), ("glow",))),
                         ("miss 1 3", "always w .", "glow"))
        self.assertEqual(read_weathers(["late", "lose 9"]), (("late",), ("lose", 9)))
        self.assertEqual(write_weathers(()), ())
        self.assertEqual(read_weathers(()), ())

    def test_bad_lines(self):
        for line, word in (("", 0), ("gloww", 0), ("Glow", 0), ("glow ", 1), ("glow 1", 1), (" glow", 0), ("lose", 1),
                           ("lose 0", 1), ("lose 10", 1), ("lose 01", 1), ("lose x", 1), ("lose 1 1", 2), ("lose  1", 1),
                           ("miss", 1), ("miss 1", 2), ("miss 0 3", 1), ("miss 1 10", 2), ("miss 1 3 ", 3),
                           ("take", 1), ("take .", 1), ("take . w", 1), ("take w", 2), ("take w x", 2), ("take x w", 1),
                           ("take w . .", 3), ("always . w", 1), ("always w -", 2), ("always w", 2), ("late late", 1)):
            self.assertEqual(error_of(read_weathers, (line,)), ("BadLine", 0, word), line)
            self.assertEqual(error_of(read_weathers, ("lose 1", line, None)), ("BadLine", 1, word), line)
        for odd in (None, 0, "glow", {}, True):
            self.assertEqual(error_of(read_weathers, odd), ("BadLine", 0, 0))
        self.assertEqual(error_of(read_weathers, ("glow", 7)), ("BadLine", 1, 0))
        self.assertEqual(error_of(read_weathers, ("glow", ("late",))), ("BadLine", 1, 0))

    def test_bad_weathers_when_all_is_read(self):
        for line in ("take w w", "always g g", "miss 3 4", "miss 2 2", "miss 1 1", "miss 1 9"):
            self.assertEqual(error_of(read_weathers, ("glow", line, line)), ("BadWeather", 1))
            self.assertEqual(error_of(read_weathers, ("glow", line, "x")), ("BadLine", 2, 0))
        self.assertEqual(error_of(read_weathers, ("glow",) * 7), ("BadWeather", -1))
        self.assertEqual(error_of(read_weathers, ("take w w",) * 7), ("BadWeather", -1))
        self.assertEqual(read_weathers(("glow",) * 6), (("glow",),) * 6)


if __name__ == "__main__":
    unittest.main()
