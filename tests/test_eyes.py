"""Points 5 and 12: eyes, and eyes that are joined."""

import random
import unittest

from falseglim.eyes import Eye
from tests.helpers import ODD, SIGNS, error_of, rows_to, seen_as, some_eye

CLEAR = tuple((0, sign, sign, 0) for sign in SIGNS)


def chain_of(many):
    """An eye that goes from state to state, and stays in the last one."""
    return Eye([(state, sign, sign, min(state + 1, many - 1)) for state in range(many) for sign in SIGNS])


def joined(first, second):
    """The joined eye's entries, as the document tells them, whatever their number."""
    found, waiting, led = {(0, 0)}, [(0, 0)], []
    while waiting:
        pair = waiting.pop()
        for a, shown, between, b in first.entries:
            for c, other, seen, d in second.entries:
                if (a, c) == pair and between == other:
                    led.append((pair, shown, seen, (b, d)))
                    if (b, d) not in found:
                        found.add((b, d))
                        waiting.append((b, d))
    numbers = {pair: number for number, pair in enumerate(sorted(found))}
    return sorted({(numbers[pair], shown, seen, numbers[later]) for pair, shown, seen, later in led})


class TestEye(unittest.TestCase):
    def test_entries_in_any_order(self):
        entries = list(CLEAR) + [(0, "w", ".", 3)] + [(3, sign, sign, 29) for sign in SIGNS] + [
            (29, sign, ".", 0) for sign in SIGNS]
        eye = Eye(entries)
        for seed in range(5):
            mixed = list(entries)
            random.Random(seed).shuffle(mixed)
            passed = [list(entry) for entry in mixed]
            self.assertEqual(Eye(passed), eye)
            self.assertEqual(passed, [list(entry) for entry in mixed])
        self.assertEqual(eye.entries, tuple(sorted(entries)))
        self.assertEqual((len(eye), list(eye), eye.states), (13, sorted(entries), (0, 3, 29)))

    def test_what_was_passed_can_be_changed(self):
        entries = [list(entry) for entry in CLEAR]
        eye = Eye(entries)
        entries[0][1] = "x"
        entries.pop()
        self.assertEqual(eye.entries, CLEAR)

    def test_equal(self):
        self.assertEqual(Eye(CLEAR), Eye(list(CLEAR)))
        self.assertNotEqual(Eye(CLEAR), Eye(CLEAR + ((0, "w", ".", 0),)))
        for odd in ODD + (CLEAR,):
            self.assertIs(Eye(CLEAR) == odd, False)

    def test_bad_entries(self):
        for odd in (None, 0, True, "entry", {}, {1: 2}):
            self.assertEqual(error_of(Eye, odd), ("BadEntry", -1))
        for odd in (None, 0, "0ww0", (), (0, "w", "w"), (0, "w", "w", 0, 0), (True, "w", "w", 0), (0, "w", "w", False),
                    (30, "w", "w", 0), (0, "w", "w", 30), (-1, "w", "w", 0), (0, "x", "w", 0), (0, "w", "", 0),
                    (0, "w", "gr", 0), (0, "w", ("w",), 0), (0, ["w"], "w", 0), (0.0, "w", "w", 0), (0, "w", None, 0),
                    (10 ** 39, "w", "w", 0)):
            self.assertEqual(error_of(Eye, list(CLEAR) + [odd, odd]), ("BadEntry", 4))
            self.assertEqual(error_of(Eye, [odd]), ("BadEntry", 0))
        self.assertEqual(error_of(Eye, CLEAR + ([0, "g", "g", 0],)), ("BadEntry", 4))
        self.assertEqual(error_of(Eye, ((0, "g", "g", 0), (0, "r", "r", 0), (0, "g", "g", 0), None)), ("BadEntry", 2))

    def test_too_many_entries(self):
        entries = [(a, shown, seen, b) for a in range(5) for shown in SIGNS for seen in SIGNS for b in range(5)]
        kept = [entry for entry in entries if entry[3] < 3]
        self.assertEqual(len(kept), 240)
        self.assertEqual(len(Eye(kept)), 240)
        self.assertEqual(error_of(Eye, kept + [(0, "w", "w", 4)]), ("TooMany", "entry"))
        self.assertEqual(error_of(Eye, kept + [(0, "w", "w", 4), (0, "w", "w", 4)]), ("BadEntry", 241))
        # A state without entries is told only when there are not too many of them.
        self.assertEqual(error_of(Eye, kept[1:] + [(0, "w", "w", 9)]), ("Blind", 9, "."))
        self.assertEqual(error_of(Eye, kept + [(0, "w", "w", 9)]), ("TooMany", "entry"))

    def test_blind(self):
        self.assertEqual(error_of(Eye, ()), ("Blind", 0, "."))
        self.assertEqual(error_of(Eye, []), ("Blind", 0, "."))
        for at, sign in enumerate(SIGNS):
            self.assertEqual(error_of(Eye, CLEAR[:at] + CLEAR[at + 1:]), ("Blind", 0, sign))
        self.assertEqual(error_of(Eye, CLEAR + ((0, "w", ".", 7),)), ("Blind", 7, "."))
        self.assertEqual(error_of(Eye, CLEAR + ((5, ".", ".", 7), (0, "w", ".", 6))), ("Blind", 5, "g"))
        self.assertEqual(error_of(Eye, [(1, sign, sign, 1) for sign in SIGNS]), ("Blind", 0, "."))

    def test_options(self):
        eye = Eye(CLEAR + ((0, "w", ".", 2), (0, "w", "w", 2)) + tuple((2, sign, ".", 0) for sign in SIGNS))
        self.assertEqual(eye.options(0, "w"), ((".", 2), ("w", 0), ("w", 2)))
        self.assertEqual(eye.options(2, "g"), ((".", 0),))
        for odd in (1, 3, -1, True, False, None, "0", 0.0, (0,), [], 10 ** 39):
            self.assertEqual(error_of(eye.options, odd, "x"), ("NoState", odd))
        for odd in (None, "", "x", "gr", ".g", 0, True, ("w",), ["w"]):
            self.assertEqual(error_of(eye.options, 0, odd), ("BadSign", odd))

    def test_rows_against_the_words(self):
        for seed in range(20):
            eye = some_eye(seed, 3)
            for shown in rows_to(3):
                for seen in rows_to(len(shown)):
                    self.assertIs(eye(shown, seen), seen_as(eye, shown, seen))

    def test_rows(self):
        eye = Eye.fair()
        self.assertIs(eye("", ""), True)
        self.assertIs(eye("w", ""), False)
        self.assertIs(eye("", "w"), False)
        self.assertIs(eye("ww", "www"), False)
        self.assertIs(eye("w" * 400, "w" * 400), True)
        for odd in (None, 1, ("w",), "w" * 401, "x" * 401):
            self.assertEqual(error_of(eye, odd, odd), ("BadRow", -1))
            self.assertEqual(error_of(eye, "wx", odd), ("BadRow", 1))
            self.assertEqual(error_of(eye, "w", odd), ("BadRow", -1))
        self.assertEqual(error_of(eye, "w", "..x"), ("BadRow", 2))
        self.assertEqual(error_of(eye, "x", "..x"), ("BadRow", 0))


class TestClearEyes(unittest.TestCase):
    def test_fair(self):
        self.assertEqual(Eye.fair().entries, CLEAR)
        self.assertEqual(Eye.fair().states, (0,))
        for shown in rows_to(3):
            for seen in rows_to(len(shown)):
                self.assertIs(Eye.fair()(shown, seen), shown == seen)

    def test_through(self):
        self.assertEqual(Eye.through(".grw"), Eye.fair())
        self.assertEqual(Eye.through("wr.g").entries, ((0, ".", "w", 0), (0, "g", "r", 0), (0, "r", ".", 0),
                                                       (0, "w", "g", 0)))
        for odd in (None, "", "...", ".....", ".gr-", 1, [".", ".", ".", "."]):
            self.assertEqual(error_of(Eye.through, odd), ("BadGlass", odd))


class TestJoined(unittest.TestCase):
    def test_numbers_of_the_states(self):
        first = Eye([(0, sign, sign, 1) for sign in SIGNS] + [(1, sign, ".", 1) for sign in SIGNS])
        second = Eye([(0, sign, sign, 0) for sign in SIGNS if sign != "w"] + [(0, "w", "g", 2)]
                     + [(2, sign, "r", 2) for sign in SIGNS])
        # The pairs come to are (0, 0), (1, 0) and (1, 2).
        self.assertEqual((first + second).entries, (
            (0, ".", ".", 1), (0, "g", "g", 1), (0, "r", "r", 1), (0, "w", "g", 2),
            (1, ".", ".", 1), (1, "g", ".", 1), (1, "r", ".", 1), (1, "w", ".", 1),
            (2, ".", "r", 2), (2, "g", "r", 2), (2, "r", "r", 2), (2, "w", "r", 2)))
        self.assertEqual((first + Eye.fair()), first)
        self.assertEqual((Eye.fair() + first), first)

    def test_against_the_words(self):
        for seed in range(60):
            first, second = some_eye(seed, 3), some_eye(seed + 1000, 3)
            self.assertEqual(list((first + second).entries), joined(first, second))

    def test_a_row_in_between(self):
        for seed in range(6):
            first, second = some_eye(seed, 2), some_eye(seed + 1000, 3)
            both = first + second
            for shown in rows_to(2):
                for seen in [row for row in rows_to(2) if len(row) == len(shown)]:
                    told = any(first(shown, row) and second(row, seen) for row in rows_to(2) if len(row) == len(shown))
                    self.assertIs(both(shown, seen), told)

    def test_neither_is_changed(self):
        first, second = some_eye(1, 3), some_eye(2, 3)
        kept = first.entries, second.entries
        self.assertIsNot(first + second, first)
        self.assertEqual((first.entries, second.entries), kept)

    def test_thirty_and_thirty_one(self):
        split = Eye([(0, sign, sign, 0) for sign in ".gr"] + [(0, "w", "w", 1)] + [(1, sign, sign, 1) for sign in SIGNS])
        # A chain of n states has 2 n - 1 pairs with the split eye, and one more if it comes back to (0, 1).
        self.assertEqual(len((chain_of(15) + split).states), 29)
        self.assertEqual(len({entry[0] for entry in joined(chain_of(16), split)}), 31)
        self.assertEqual(error_of(lambda: chain_of(16) + split), ("TooMany", "state"))
        circle = Eye([(state, sign, sign, (state + 1) % 15) for state in range(15) for sign in SIGNS])
        self.assertEqual(len((circle + split).states), 30)

    def test_too_many_entries_behind_too_many_states(self):
        blur = Eye([(0, shown, seen, 0) for shown in SIGNS for seen in SIGNS])
        self.assertEqual(len(chain_of(15) + blur), 240)
        self.assertEqual(error_of(lambda: chain_of(16) + blur), ("TooMany", "entry"))
        split = Eye([(0, shown, seen, 1 if shown == "w" else 0) for shown in SIGNS for seen in SIGNS]
                    + [(1, shown, seen, 1) for shown in SIGNS for seen in SIGNS])
        self.assertEqual(error_of(lambda: chain_of(30) + split), ("TooMany", "state"))

    def test_two_hundred_and_forty_one(self):
        # Red is seen by the first eye in one place alone, and the second one makes two entries out of that one.
        many = 30
        doubtful = Eye(CLEAR + ((0, "r", "w", 0),))
        once = Eye([(state, shown, seen, (state + 1) % many) for state in range(many) for shown in SIGNS
                    for seen in (shown, "g" if shown == "." else ".") if shown != "r" and seen != "r"]
                   + [(state, "r", ".", (state + 1) % many) for state in range(many)]
                   + [(state, "r", "g", (state + 1) % many) for state in range(1, many)] + [(0, "r", "r", 1)])
        self.assertEqual(len(once), 240)
        self.assertEqual(once + Eye.fair(), once)
        self.assertEqual(len(joined(once, doubtful)), 241)
        self.assertEqual(error_of(lambda: once + doubtful), ("TooMany", "entry"))


if __name__ == "__main__":
    unittest.main()
