"""Points 49 and 10: signals, messages, the talking world and light, and the lines of signals."""

import random
import unittest

from falseglim.errors import BadLine, BadText, TooLong
from falseglim.eyes import Eye
from falseglim.hindsight import Hindsight
from falseglim.makers import ring
from falseglim.signals import Signals, read_signals, talking_light, talking_world, write_signals
from falseglim.worlds import World
from tests.helpers import ODD, SIGNS, error_of, listed, rows_of
from tests.test_coasts import NO_TUPLES
from tests.test_makers import made

PLAIN = "w.."
PAIRS = (("b", "ww."), ("a", "g"))
LINES = ("round w..", "signal b ww.", "signal a g")
NO_SIGNALS = ODD + (
    "a", ("a",), ("a", "w", "g"), ("A", "w"), ("0", "w"), ("1", "w"), ("ab", "w"), ("", "w"), (None, "w"), (1, "w"), (True, "w"),
    (("a",), "w"), (["a"], "w"), ("a", ""), ("a", "x"), ("a", "wx"), ("a", "w" * 13), ("a", None), ("a", 1), ("a", ("w",)),
    ("a", ["w"]), ("a", "2w"), ("a", b"w"), {"a": "w"}, {"a": 1, "w": 2}, "aw", ("-", "w"))


def some_signals(seed, most=4, longest=3):
    chance = random.Random(seed)
    letters = chance.sample("abcxyz", chance.randint(0, most))
    rows = ["".join(chance.choice(".gw" if chance.random() < 0.9 else SIGNS) for _ in range(chance.randint(1, longest)))
            for _ in range(5)]
    return Signals(rows[4], tuple(zip(letters, rows)))


def told_talk(signals, marks, all_begin):
    """A talking world by the words of the document; `marks` tells the mark of each piece."""
    rows = [signals.plain] + [word for _, word in signals.signals]
    places = [(piece, at) for piece, row in enumerate(rows) for at in range(len(row))]

    def follow(place):
        piece, at = place
        return [(piece, at + 1)] if (piece, at + 1) in places else [(other, 0) for other in range(len(rows))]

    return made(places if all_begin else [place for place in places if place[1] == 0], follow,
                lambda place: (rows[place[0]][place[1]], marks[place[0]]))


class TestSignals(unittest.TestCase):
    def test_attributes(self):
        for pairs in (PAIRS, listed(PAIRS), [list(pair) for pair in PAIRS]):
            signals = Signals(PLAIN, pairs)
            self.assertEqual((signals.plain, signals.signals), (PLAIN, PAIRS))
            self.assertIsInstance(signals.signals, tuple)
            self.assertIsInstance(signals.signals[0], tuple)
            self.assertEqual((len(signals), tuple(signals)), (2, PAIRS))
            self.assertEqual(signals.pieces, "0ba")
        alone = Signals("w")
        self.assertEqual((alone.signals, len(alone), list(alone), alone.pieces), ((), 0, [], "0"))

    def test_lists_are_not_kept(self):
        pairs = listed(PAIRS)
        signals = Signals(PLAIN, pairs)
        pairs[0][1] = "r"
        pairs.pop()
        self.assertEqual(signals, Signals(PLAIN, PAIRS))
        self.assertEqual(signals("b"), "ww.")

    def test_equality(self):
        signals = Signals(PLAIN, PAIRS)
        self.assertIs(signals == Signals("w..", listed(PAIRS)), True)
        for other in (Signals(PLAIN, PAIRS[::-1]), Signals(PLAIN, PAIRS[:1]), Signals(PLAIN), Signals("w.", PAIRS), PAIRS, None,
                      Signals("w..w..", PAIRS), Signals(PLAIN, (("b", "ww."), ("a", "r"))), 2, LINES):
            self.assertIs(signals == other, False)
            self.assertIs(signals != other, True)

    def test_no_signal_and_four_signals(self):
        four = tuple((letter, "w" * 12) for letter in "azby")
        self.assertEqual(len(Signals("g" * 24, four)), 4)
        self.assertEqual(error_of(Signals, "g", four + (("c", "w"),)), ("BadSignal", -1))
        self.assertEqual(error_of(Signals, "g", four + (None,)), ("BadSignal", -1))
        self.assertEqual(len(talking_world(Signals("g" * 24, four))), 72)
        self.assertEqual(len(talking_light(Signals("g" * 24, four), "x")), 72)

    def test_errors(self):
        for odd, number in ((None, -1), ("", -1), ("w" * 25, -1), (("w",), -1), ("wx", 1), ("x", 0), (1, -1), (True, -1)):
            self.assertEqual(error_of(Signals, odd, None), ("BadRound", number))
        for odd in NO_TUPLES + ("aw", {"a": "w"}):
            self.assertEqual(error_of(Signals, "w", odd), ("BadSignal", -1))
        for odd in NO_SIGNALS:
            self.assertEqual(error_of(Signals, "w", (odd,)), ("BadSignal", 0), odd)
            self.assertEqual(error_of(Signals, "w", (("x", "w"), odd, None)), ("BadSignal", 1))
        # The letter of an earlier one.
        self.assertEqual(error_of(Signals, "w", (("a", "w"), ("b", "w"), ("a", "w"))), ("BadSignal", 2))
        self.assertEqual(error_of(Signals, "w", (("a", "w"), ["a", "g"], None)), ("BadSignal", 1))
        # One word for several letters can be.
        self.assertEqual(len(Signals("w", (("a", "w"), ("b", "w")))), 2)

    def test_messages(self):
        signals = Signals(PLAIN, PAIRS)
        for message, row in (("", ""), ("0", "w.."), ("a", "g"), ("b", "ww."), ("a0ba", "gw..ww.g"), ("00", "w..w..")):
            self.assertEqual(signals(message), row)
        self.assertEqual(signals("0" * 100), "w.." * 100)
        for odd, number in ((None, -1), (0, -1), (True, -1), (("0",), -1), (["0"], -1), (b"0", -1), ("0" * 101, -1), ("c" * 101, -1),
                            ("c", 0), ("0ac", 2), ("01", 1), ("0 ", 1), ("B", 0), ("ab0.", 3), ("0" * 99 + "w", 99)):
            self.assertEqual(error_of(signals, odd), ("BadMessage", number))
        self.assertEqual(error_of(Signals("w"), "a"), ("BadMessage", 0))


class TestWorlds(unittest.TestCase):
    def test_the_talking_world(self):
        world = talking_world(Signals("w.", (("b", "g"), ("a", "r."))))
        # The states are (0, 0), (0, 1), (1, 0), (2, 0), (2, 1).
        self.assertEqual(world, World("w.gr.", ((1,), (0, 2, 3), (0, 2, 3), (4,), (0, 2, 3)), (0, 2, 3), ("0", "0", "b", "a", "a")))
        self.assertEqual(talking_world(Signals("w..")), ring("w..", "0", 0))

    def test_the_talking_light(self):
        light = talking_light(Signals("w.", (("b", "g"), ("a", "r."))), "anna")
        self.assertEqual(light, World("w.gr.", ((1,), (0, 2, 3), (0, 2, 3), (4,), (0, 2, 3)), (0, 1, 2, 3, 4), ("anna",) * 5))
        self.assertEqual(talking_light(Signals("w.."), "x"), ring("w..", "x"))

    def test_against_the_words(self):
        for seed in range(60):
            signals = some_signals(seed, longest=5)
            self.assertEqual(talking_world(signals), told_talk(signals, signals.pieces, False))
            self.assertEqual(talking_light(signals, "bell"), told_talk(signals, ("bell",) * 5, True))

    def test_what_is_shown(self):
        signals = Signals("w.", (("a", "g"), ("b", "wr")))
        world = talking_world(signals)
        talks = {""}
        for _ in range(4):
            talks |= {talk + piece for talk in talks for piece in signals.pieces}
        for row in rows_of(4, ".grw"):
            self.assertEqual(bool(world.ends(row)), any(signals(talk)[:4] == row for talk in talks), row)

    def test_bad_marks(self):
        signals = Signals(PLAIN, PAIRS)
        for odd in ODD[:6] + ("", "Anna", "a b", "-", "abcdefghi", ("anna",), ["anna"], b"anna", {}, None):
            told = error_of(talking_light, signals, odd)
            self.assertEqual(told[0], "BadMark")
            self.assertIs(told[1], odd)
        self.assertEqual(talking_light(signals, "abcdefgh").marks[0], "abcdefgh")

    def test_a_near_eye_reads_all(self):
        # Two pieces that begin alike part at their last signs.
        self.assertEqual(Hindsight(talking_world(Signals("w.", (("a", "wg"),))), Eye.fair()).delay, 2)
        self.assertIs(bool(Hindsight(talking_world(Signals("w.", (("a", "w"),))), Eye.fair())), True)
        # Two white ones can be one piece or two.
        self.assertIs(bool(Hindsight(talking_world(Signals("w", (("a", "ww"),))), Eye.fair())), False)


class TestLines(unittest.TestCase):
    def bad(self, lines, line, word):
        self.assertEqual(error_of(read_signals, lines), ("BadLine", line, word), lines)

    def test_there_and_back(self):
        signals = Signals(PLAIN, PAIRS)
        self.assertEqual(write_signals(signals), LINES)
        self.assertIsInstance(write_signals(signals), tuple)
        self.assertEqual(read_signals(LINES), signals)
        self.assertEqual(read_signals(list(LINES)), signals)
        self.assertEqual(write_signals(Signals("wwwwwwgggg")), ("round 6w4g",))
        self.assertEqual(read_signals(("round 2w.@5&g",)), Signals("wwggg"))
        for seed in range(60):
            signals = some_signals(seed, longest=12)
            self.assertEqual(read_signals(write_signals(signals)), signals)

    def test_things_that_are_no_lines(self):
        for odd in (None, 0, True, LINES[0], "", {}, object()):
            self.bad(odd, 0, 0)
        for odd in (None, 0, ("round", "w"), b"round w", True):
            self.bad((odd,), 0, 0)
            self.bad(LINES[:1] + (odd,), 1, 0)
            self.bad(LINES + (odd,), 3, 0)
        self.bad((), 0, 0)
        self.bad([], 0, 0)

    def test_first_words(self):
        for first in ("", "Round", "rounds", "signal", "signals", "end", "-"):
            self.bad((first + " w",) + LINES[1:], 0, 0)
        for first in ("", "Signal", "signals", "round", "end", "-"):
            self.bad(LINES[:1] + (first + " a w",), 1, 0)
        self.bad(LINES + LINES[:1], 3, 0)
        self.bad(LINES[1:], 0, 0)

    def test_spoilt_words(self):
        for text, cause in (("w2", BadText), ("", BadText), ("x", BadText), ("25w", BadText), ("24w.", TooLong)):
            with self.assertRaises(BadLine) as caught:
                read_signals(("round " + text,) + LINES[1:])
            self.assertEqual((caught.exception.line, caught.exception.word), (0, 1))
            self.assertIsInstance(caught.exception.__cause__, cause)
        for letter in ("", "A", "0", "1", "ab", "-", ".", "a."):
            self.bad(LINES[:1] + (f"signal {letter} w",), 1, 1)
        for word in ("", "x", "wx", "w" * 13, "2w", "-", "W"):
            self.bad(LINES[:2] + (f"signal a {word}",), 2, 2)
        for line, word in (("signal", 1), ("signal a", 2), ("signal a w w", 3), ("signal a w ", 3), ("signal  a w", 1),
                           (" signal a w", 0), ("", 0)):
            self.bad(LINES[:2] + (line,), 2, word)
        for line, word in (("round", 1), ("round w w", 2), ("round w ", 2), ("round  w", 1)):
            self.bad((line,), 0, word)
        # The first bad word: what stands behind it is not read.
        self.bad(("round w", "signal ? ?", None), 1, 1)

    def test_errors_when_all_is_read(self):
        self.assertEqual(error_of(read_signals, LINES + ("signal b w",)), ("BadSignal", 2))
        self.assertEqual(error_of(read_signals, LINES + ("signal c w",) * 3), ("BadSignal", -1))
        self.bad(LINES + ("signal b w", "signal b x"), 4, 2)

    def test_the_lines_are_not_changed(self):
        lines = list(LINES)
        read_signals(lines)
        self.assertEqual(lines, list(LINES))


if __name__ == "__main__":
    unittest.main()
