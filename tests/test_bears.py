"""Point 19: the misses that a world bears."""

import unittest

from falseglim.bears import bears
from falseglim.eyes import Eye
from falseglim.hindsight import Hindsight
from falseglim.makers import either, marked, over, ring
from falseglim.weathers import eye_of
from tests.helpers import ODD, error_of, some_world
from tests.test_hindsight import many_together

TWO = either(ring("w.w.w.w.", "a"), ring("g", "b"))
ALIKE = either(ring("w.", "a"), ring("w.", "b"))


def told_bears(world, beats, delay):
    """The greatest number by trying one after the other."""
    borne = -1
    for many in (0, 1, 2):
        if many < beats:
            verdict = Hindsight(world, eye_of((("miss", many, beats),)) if many else Eye.fair())
            if verdict.delay is None or verdict.delay > delay:
                return borne
            borne = many
    return borne


class TestBears(unittest.TestCase):
    def test_all_numbers(self):
        self.assertEqual(bears(ALIKE, 8, 60), -1)
        self.assertEqual(bears(marked(ALIKE, "a"), 8, 0), 2)
        self.assertEqual(bears(marked(ALIKE, ""), 2, 0), 1)
        found = {bears(some_world(seed, 3, marks=("a", "b")), beats, delay)
                 for seed in range(40) for beats in (2, 3) for delay in (1, 4)}
        self.assertEqual(found, {-1, 0, 1, 2})

    def test_against_trying_them(self):
        for seed in range(40):
            world = some_world(seed, 2 + seed % 3, marks=("a", "b"))
            for beats in (2, 3, 8):
                for delay in (0, 1, 2, 5, 60):
                    self.assertEqual(bears(world, beats, delay), told_bears(world, beats, delay))

    def test_just_enough_and_one_less(self):
        world = either(ring("w..", "a"), ring("w...", "b"))
        delays = [Hindsight(world, eye).delay for eye in (Eye.fair(), eye_of((("miss", 1, 8),)))]
        self.assertEqual(delays[0], 6)
        self.assertEqual(bears(world, 8, 5), -1)
        self.assertEqual(bears(world, 8, 6), 0)
        self.assertGreater(delays[1], 6)
        self.assertEqual(bears(world, 8, delays[1] - 1), 0)
        self.assertGreaterEqual(bears(world, 8, delays[1]), 1)

    def test_two_beats_bear_one_miss_at_most(self):
        world = either(ring("g", "a"), ring("r", "b"))
        self.assertEqual(Hindsight(world, eye_of((("miss", 1, 2),))).delay, 2)
        self.assertEqual(Hindsight(world, eye_of((("miss", 2, 3),))).delay, 3)
        self.assertEqual([bears(world, 2, delay) for delay in (0, 1, 2, 60)], [-1, 0, 1, 1])
        self.assertEqual([bears(world, 3, delay) for delay in (0, 1, 2, 3, 60)], [-1, 0, 1, 2, 2])
        self.assertEqual([bears(world, 8, delay) for delay in (2, 3)], [1, 2])

    def test_wrong_arguments(self):
        for odd in ODD + (1, 9, -2, 10 ** 39, "2", 2.0):
            told = error_of(bears, TWO, odd, None)
            self.assertEqual(told[0], "BadBeats")
            self.assertIs(told[1], odd)
        for odd in [thing for thing in ODD if type(thing) is not int] + [-1, 61, 10 ** 39, "5", 5.0]:
            told = error_of(bears, many_together(2), 2, odd)
            self.assertEqual(told[0], "BadDelay")
            self.assertIs(told[1], odd)
        self.assertEqual(bears(TWO, 2, 60), bears(TWO, 2, 60))
        self.assertEqual(bears(marked(TWO, "a"), 8, 0), 2)

    def test_too_many_pairs(self):
        self.assertEqual(error_of(bears, many_together(2), 2, 60), ("TooMany", "pair"))
        self.assertEqual(error_of(bears, many_together(2), 2, 0), ("TooMany", "pair"))
        # With the clear eye there are few pairs, with one miss too many, whether or not the delay is enough.
        ring_of_24 = over(ring("w" * 23 + "g", "a"), ring(".", "", 0))
        self.assertEqual(Hindsight(ring_of_24, Eye.fair()).delay, 0)
        self.assertEqual(len(Hindsight(ring_of_24, Eye.fair())), 300)
        parts = either(ring("w" * 23 + "g", "a"), ring("w" * 23 + "g", "a"), ring("w" * 5 + "r", "a"))
        self.assertEqual(len(Hindsight(parts, Eye.fair())), 1485)
        self.assertEqual(error_of(Hindsight, parts, eye_of((("miss", 1, 2),))), ("TooMany", "pair"))
        for delay in (0, 60):
            self.assertEqual(error_of(bears, parts, 2, delay), ("TooMany", "pair"))
        # A number that is too great already ends the trying.
        last = either(ring("w" * 23 + "g", "a"), ring("w" * 23 + "g", "b"), ring("w" * 5 + "r", "a"))
        self.assertEqual(bears(last, 2, 60), -1)


if __name__ == "__main__":
    unittest.main()
