"""Point 50: what a talk can have been."""

import itertools
import os
import types
import unittest

from falseglim.eyes import Eye
from falseglim.readings import Readings
from falseglim.signals import Signals
from falseglim.weathers import eye_of
from tests.helpers import ODD, SIGNS, error_of, rows_to, seen_as, some_eye
from tests.test_backs import BLUR, EYE_OF_400, EYE_OF_401, forgetful
from tests.test_signals import some_signals

FAIR = Eye.fair()
SOME = Signals("w..", (("b", "ww."), ("a", "w")))
# Each sign is a piece: so all rows are messages.
ALL = Signals(".", (("g", "g"), ("r", "r"), ("w", "w")))


def two_chains(many):
    """An eye that sees nothing; it holds possible each of the last beats at which white, green or, for both, red was."""
    entries = [(0, sign, ".", 0) for sign in SIGNS]
    entries += [(0, "w", ".", 1), (0, "r", ".", 1), (0, "g", ".", many + 1), (0, "r", ".", many + 1)]
    entries += [(state, sign, ".", 0 if state % many == 0 else state + 1) for state in range(1, 2 * many + 1) for sign in SIGNS]
    return Eye(entries)


def told_messages(signals, eye, look):
    """All messages that fit, by going through all messages."""
    found, waiting = [], [""]
    for message in waiting:
        row = signals(message)
        if len(row) < len(look):
            waiting += [message + piece for piece in signals.pieces]
        elif (len(signals(message[:-1])) < len(look) or not look) and seen_as(eye, row[:len(look)], look):
            found.append(message)
    return sorted(found)


def told_sets(signals, eye, look):
    """How many sets of states there are at each number of beats, by going through the beginnings of messages."""
    found, waiting = [{} for _ in range(len(look) + 1)], [""]
    for message in waiting:
        row = signals(message)
        for beats in range(min(len(row), len(look)) + 1):
            states = {0}
            for shown, seen in zip(row[:beats], look):
                states = {entry[3] for entry in eye.entries if entry[0] in states and entry[1:3] == (shown, seen)}
            if states:
                found[beats][tuple(sorted(states))] = True
        if len(row) < len(look):
            waiting += [message + piece for piece in signals.pieces]
    return [len(sets) for sets in found]


class TestReadings(unittest.TestCase):
    def check(self, signals, eye, look):
        told = told_messages(signals, eye, look)
        readings = Readings(signals, eye, look)
        self.assertEqual(readings.number, len(told))
        self.assertEqual(readings.first, told[0] if told else None)
        self.assertEqual(readings.sure, os.path.commonprefix(told) if told else None)
        self.assertEqual(list(readings.each_message()), told)
        return told

    def test_attributes(self):
        eye = eye_of((("miss", 1, 3),))
        readings = Readings(SOME, eye, "w..w.")
        self.assertIs(readings.signals, SOME)
        self.assertIs(readings.eye, eye)
        self.assertEqual(readings.look, "w..w.")
        told = self.check(SOME, eye, "w..w.")
        self.assertEqual((readings.number, readings.first, readings.sure), (len(told), told[0], ""))
        self.assertGreater(len(told), 5)

    def test_the_empty_look(self):
        for signals in (SOME, ALL, Signals("w")):
            readings = Readings(signals, FAIR, "")
            self.assertEqual((readings.number, readings.first, readings.sure), (1, "", ""))
            self.assertEqual(list(readings.each_message()), [""])
            self.assertIs("" in readings, True)
            for message in ("0", "a", "00", None, 0, ()):
                self.assertIs(message in readings, False)

    def test_no_message_that_fits(self):
        readings = Readings(SOME, FAIR, "g")
        self.assertEqual((readings.number, readings.first, readings.sure), (0, None, None))
        self.assertEqual(list(readings.each_message()), [])
        for message in ("", "0", "a", "ab"):
            self.assertIs(message in readings, False)
        self.assertEqual(self.check(SOME, FAIR, "w..g"), [])

    def test_messages_that_are_cut(self):
        # The last piece can begin at the last beat.
        self.assertEqual(self.check(SOME, FAIR, "w"), ["0", "a", "b"])
        self.assertEqual(self.check(SOME, FAIR, "w.."), ["0"])
        self.assertEqual(self.check(SOME, FAIR, "w..w"), ["00", "0a", "0b"])
        self.assertEqual(self.check(SOME, FAIR, "ww.w"), ["b0", "ba", "bb"])
        self.assertEqual(self.check(SOME, FAIR, "www"), ["aa0", "aaa", "aab", "ab"])

    def test_what_is_sure(self):
        self.assertEqual(Readings(SOME, FAIR, "w..w..ww").sure, "00")
        # If one message alone fits, it is sure as a whole.
        readings = Readings(SOME, FAIR, "w..w..")
        self.assertEqual((readings.number, readings.first, readings.sure), (1, "00", "00"))
        self.assertEqual(Readings(SOME, FAIR, "w..ww.").sure, "0")
        self.assertEqual(Readings(SOME, FAIR, "w..ww.w").sure, "0b")
        self.assertEqual(Readings(ALL, FAIR, "gr.w" * 10).sure, "gr0w" * 10)

    def test_the_order_of_letters(self):
        # By their letters, not by the order of the signals.
        signals = Signals("w", (("z", "w"), ("b", "w"), ("k", "w")))
        self.assertEqual(self.check(signals, FAIR, "w"), ["0", "b", "k", "z"])
        self.assertEqual(self.check(signals, FAIR, "ww")[:5], ["00", "0b", "0k", "0z", "b0"])

    def test_against_the_words(self):
        found = set()
        for seed in range(120):
            signals = some_signals(seed, most=2 + seed % 2, longest=3)
            eye = (FAIR, eye_of((("miss", 1, 2),)), BLUR, some_eye(seed, 2))[seed % 4]
            for look in itertools.islice(rows_to(5, ".gw"), seed % 7, None, 23):
                told = self.check(signals, eye, look)
                found.add(min(len(told), 3))
        self.assertEqual(found, {0, 1, 2, 3})

    def test_whether_a_message_fits(self):
        for seed in range(20):
            signals, eye = some_signals(seed, most=2), eye_of((("miss", 1, 3),))
            for look in ("w", "w.g", ".w.", "..w."):
                readings, told = Readings(signals, eye, look), told_messages(signals, eye, look)
                for many in range(5):
                    for message in map("".join, itertools.product(signals.pieces + "q", repeat=many)):
                        self.assertIs(message in readings, message in told)

    def test_things_that_are_no_message(self):
        readings = Readings(SOME, FAIR, "www")
        for odd in ODD + (("a", "a", "a"), ["a", "a", "a"], b"aaa", "aaaa", "aa", "aA", "a" * 101, "a" * 2000, {"aaa": 1}, "aac"):
            self.assertIs(odd in readings, False)
        self.assertIs("aaa" in readings, True)

    def test_very_many(self):
        readings = Readings(ALL, BLUR, "." * 40)
        self.assertEqual(readings.number, 4 ** 40)
        self.assertEqual((readings.first, readings.sure), ("0" * 40, ""))
        told = list(itertools.islice(readings.each_message(), 5))
        self.assertEqual(told, ["0" * 39 + piece for piece in "0grw"] + ["0" * 38 + "g0"])
        for message in told:
            self.assertIs(message in readings, True)
        self.assertIs("w" * 40 in readings, True)
        self.assertIs("w" * 41 in readings, False)
        many = Readings(Signals("w", (("a", "g"), ("b", "r"), ("c", "."), ("d", "w."))), eye_of((("miss", 2, 8),)), "." * 40)
        self.assertGreater(many.number, 10 ** 9)
        self.assertEqual(sum(1 for _ in itertools.islice(many.each_message(), 1000)), 1000)

    def test_a_generator(self):
        readings = Readings(SOME, FAIR, "www")
        told = readings.each_message()
        self.assertIsInstance(told, types.GeneratorType)
        self.assertEqual(next(told), "aa0")
        self.assertEqual(next(readings.each_message()), "aa0")
        self.assertEqual(list(told), ["aaa", "aab", "ab"])

    def test_long_words(self):
        signals = Signals("w" * 24, (("a", "g" * 12),))
        self.assertEqual(self.check(signals, FAIR, "g" * 12 + "w" * 24 + "g"), ["a0a"])
        self.assertEqual(self.check(signals, FAIR, "w" * 24 + "w"), ["00"])
        self.assertEqual(Readings(signals, FAIR, "w" * 25).sure, "00")


class TestErrors(unittest.TestCase):
    def test_rows_and_lengths(self):
        for odd, number in ((None, -1), (0, -1), (True, -1), (("w",), -1), ("x", 0), ("wx", 1), ("w" * 401, -1), ("w" * 60 + "x", 60)):
            self.assertEqual(error_of(Readings, SOME, FAIR, odd), ("BadRow", number))
        self.assertEqual(error_of(Readings, SOME, FAIR, "w" * 41), ("TooLong", 41))
        self.assertEqual(error_of(Readings, SOME, FAIR, "w" * 400), ("TooLong", 400))
        self.assertEqual(Readings(SOME, FAIR, "w" * 40).sure, "a" * 38)

    def test_too_many_sets(self):
        self.assertEqual(told_sets(ALL, forgetful(3), "....")[-1], 2 ** 3)
        self.assertEqual(Readings(ALL, forgetful(8), "." * 40).number, 4 ** 40)
        self.assertEqual(error_of(Readings, ALL, forgetful(9), "." * 40), ("TooMany", "set"))
        self.assertEqual(Readings(ALL, forgetful(9), "." * 8).number, 4 ** 8)
        # The sets behind the last beat count as well.
        self.assertEqual(error_of(Readings, ALL, forgetful(9), "." * 9), ("TooMany", "set"))
        # Whether or not any message fits.
        self.assertEqual(error_of(Readings, ALL, forgetful(9), "." * 9 + "r"), ("TooMany", "set"))

    def test_four_hundred_sets_and_more(self):
        self.assertEqual(Readings(ALL, EYE_OF_400, "." * 9).number, 4 ** 9)
        self.assertEqual(error_of(Readings, ALL, EYE_OF_401, "." * 11), ("TooMany", "set"))
        self.assertEqual(Readings(ALL, EYE_OF_401, "." * 10).number, 4 ** 10)

    def test_sets_within_pieces(self):
        # All pieces have two signs: behind nine beats each one is cut.
        signals = Signals("w.", (("a", "ww"), ("b", ".w"), ("c", "..")))
        self.assertEqual(told_sets(signals, forgetful(5), "....."), [1, 2, 4, 8, 16, 32])
        self.assertEqual(Readings(signals, forgetful(9), "." * 8).number, 4 ** 4)
        self.assertEqual(error_of(Readings, signals, forgetful(9), "." * 9), ("TooMany", "set"))
        # All pieces begin dark: only within pieces, behind ten beats, the sets become too many.
        signals = Signals("..", (("g", ".g"), ("r", ".r"), ("w", ".w")))
        self.assertEqual(told_sets(signals, two_chains(10), "......"), [1, 1, 4, 4, 16, 16, 64])
        self.assertEqual(Readings(signals, two_chains(10), "." * 9).number, 4 ** 5)
        self.assertEqual(error_of(Readings, signals, two_chains(10), "." * 10), ("TooMany", "set"))
        # Words that are never read to their ends lead the eye on as long as they can be seen.
        self.assertEqual(Readings(signals, forgetful(9), "." * 8 + "w").number, 0)

    def test_the_empty_set_is_not_counted(self):
        for seed in range(20):
            signals, eye = some_signals(seed, most=3, longest=4), some_eye(seed, 3, more=9)
            self.assertLessEqual(max(told_sets(signals, eye, "g..w")), 7)
            self.assertEqual(Readings(signals, eye, "g..w").number, len(told_messages(signals, eye, "g..w")))


if __name__ == "__main__":
    unittest.main()
