"""Point 40: the least lots of lights by which a ship knows where she was."""

import itertools
import unittest

from falseglim.eyes import Eye
from falseglim.hindsight import Hindsight
from falseglim.lightlots import light_lots
from falseglim.makers import ring
from falseglim.sailing import sailed
from falseglim.seas import Sea
from falseglim.weathers import eye_of
from falseglim.worlds import World
from tests.helpers import ODD, error_of, some_eye, some_world
from tests.test_hindsight import many_together
from tests.test_makers import full
from tests.test_seas import some_sea

CLEAR, DARK = ".grw", "...."
WORLDS = (ring("w.", "x"), ring("g.", "y"), ring("r.", "z"))


def stays(*sectors):
    """A sea with a region for each of some sectors, between which she does not sail."""
    many = len(sectors)
    return Sea(tuple("abcdef"[:many]), tuple((number,) for number in range(many)), tuple(range(many)), sectors)


def is_enough(sea, worlds, eye, beats, delay, lot):
    verdict = Hindsight(sailed(sea, worlds, watch=lot, beats=beats), eye)
    return bool(verdict) and verdict.delay <= delay


def told_lots(sea, worlds, eye, beats, delay):
    """The least lots by the words of the document, and whether a lot is enough while a greater one is not."""
    many = len(sea.sectors[0])
    lots = [lot for size in range(1, many + 1) for lot in itertools.combinations(range(many), size)]
    enough = {lot: is_enough(sea, worlds, eye, beats, delay, lot) for lot in lots}
    least = tuple(lot for lot in lots if enough[lot] and not any(
        enough[other] for other in lots if set(other) < set(lot)))
    return least, any(set(lot) < set(other) for lot in lots for other in lots if enough[lot] and not enough[other])


class TestLightLots(unittest.TestCase):
    def test_one_light_is_enough(self):
        sea = stays((CLEAR, CLEAR, DARK), (CLEAR, ".rrr", DARK))
        self.assertEqual(light_lots(sea, WORLDS, Eye.fair(), 1, 60), ((1,),))
        self.assertIsInstance(light_lots(sea, WORLDS, Eye.fair(), 1, 60), tuple)
        self.assertEqual(light_lots(stays((CLEAR,)), WORLDS[:1], Eye.fair(), 1, 0), ((0,),))

    def test_none(self):
        sea = stays((CLEAR, CLEAR), (CLEAR, CLEAR))
        self.assertEqual(light_lots(sea, WORLDS[:2], Eye.fair(), 1, 60), ())
        self.assertEqual(light_lots(stays((CLEAR, ".rrr")), WORLDS[:2], Eye.fair(), 1, 60), ((0,), (1,)))

    def test_two_lights_together(self):
        # Each light parts two of three regions; both of them part all.
        sea = stays((CLEAR, CLEAR, CLEAR), (".rrr", CLEAR, CLEAR), (CLEAR, ".rrr", CLEAR))
        told = light_lots(sea, WORLDS, Eye.fair(), 1, 60)
        self.assertEqual(told, told_lots(sea, WORLDS, Eye.fair(), 1, 60)[0])
        # At the turn of a light whose round has as many beats as the turns, it may be dark for ever.
        slow = (ring("w..", "x"), ring("g..", "y"), ring("r..", "z"))
        self.assertEqual(light_lots(sea, slow, Eye.fair(), 1, 60), ((0, 1),))

    def test_the_order(self):
        steady = (ring("w", "x"), ring("w", "y"), ring("w", "z"))
        # The first light tells the half in which she is, the two others each a quarter.
        sea = stays((CLEAR, CLEAR, CLEAR), (CLEAR, ".rrr", ".rrr"), (".rrr", CLEAR, ".ggg"), (".rrr", ".rrr", ".ggg"))
        self.assertEqual(light_lots(sea, steady, Eye.fair(), 1, 60), ((0, 1), (1, 2)))
        sea = stays((CLEAR, CLEAR, CLEAR), (CLEAR, ".rrr", ".rrr"), (".rrr", CLEAR, ".ggg"))
        self.assertEqual(light_lots(sea, steady, Eye.fair(), 1, 60), ((2,), (0, 1)))

    def test_the_delay(self):
        sea = stays((CLEAR,), (".rrr",))
        for round_, delay in (("w", 1), ("w.", 2), ("w..", 3)):
            worlds = (ring(round_, "x"),)
            self.assertEqual(light_lots(sea, worlds, Eye.fair(), 1, delay), ((0,),))
            self.assertEqual(light_lots(sea, worlds, Eye.fair(), 1, delay - 1), ())
        # Nothing is to be told of one region.
        self.assertEqual(light_lots(stays((DARK,)), (ring("w", "x"),), Eye.fair(), 9, 0), ((0,),))

    def test_a_greater_lot_can_be_worse(self):
        sea, worlds = stays((CLEAR, DARK), (".rrr", DARK)), (ring("w.", "x"), ring("w", "y"))
        # By turns with the other light, the first one can be dark each time when it is looked at.
        self.assertEqual(told_lots(sea, worlds, Eye.fair(), 1, 60), (((0,),), True))
        self.assertEqual(light_lots(sea, worlds, Eye.fair(), 1, 60), ((0,),))
        self.assertIs(is_enough(sea, worlds, Eye.fair(), 1, 60, (0, 1)), False)
        self.assertIs(is_enough(sea, worlds, Eye.fair(), 2, 60, (0, 1)), True)

    def test_against_the_words(self):
        found, worse = set(), 0
        for seed in range(150):
            sea = some_sea(seed, 1 + seed % 3, 1 + seed % 2 if seed % 5 else 3)
            worlds = tuple(some_world(seed + 7 * number, 1 + (seed + number) % 2) for number in range(len(sea.sectors[0])))
            eye = (Eye.fair(), eye_of((("lose", 1),)), some_eye(seed, 2))[seed % 3]
            for beats, delay in ((1, 60), (2, 3)):
                told, is_worse = told_lots(sea, worlds, eye, beats, delay)
                self.assertEqual(light_lots(sea, worlds, eye, beats, delay), told)
                found.add(told)
                worse = worse + is_worse
        self.assertGreater(len(found), 7)
        self.assertGreater(worse, 5)

    def test_errors_in_their_order(self):
        sea = stays((CLEAR, CLEAR))
        for odd in ODD + ((), [], WORLDS, WORLDS[:1], WORLDS[0], (WORLDS[0], None)):
            self.assertEqual(error_of(light_lots, sea, odd, Eye.fair(), None, None), ("BadWorlds", -1))
        for odd in [thing for thing in ODD if type(thing) is not int] + [0, 10, -1, "1", (1,)]:
            told = error_of(light_lots, sea, WORLDS[:2], Eye.fair(), odd, None)
            self.assertEqual(told[0], "BadBeats")
            self.assertIs(told[1], odd)
        for odd in [thing for thing in ODD if type(thing) is not int] + [-1, 61, "1", (1,)]:
            told = error_of(light_lots, sea, (full(96), full(96)), Eye.fair(), 9, odd)
            self.assertEqual(told[0], "BadDelay")
            self.assertIs(told[1], odd)
        self.assertEqual(light_lots(sea, list(WORLDS[:2]), Eye.fair(), 9, 60), ((0,), (1,)))


class TestTooMany(unittest.TestCase):
    def test_states(self):
        sea = stays((CLEAR, CLEAR), (".rrr", ".rrr"))
        few, large = ring("w", "x"), full(49)
        self.assertEqual(error_of(light_lots, sea, (few, large), Eye.fair(), 1, 60), ("TooMany", "state"))
        self.assertEqual(error_of(light_lots, sea, (large, few), Eye.fair(), 1, 60), ("TooMany", "state"))

    def test_not_where_a_least_lot_is_a_part(self):
        # Both lights together have 400 states; but each one is enough.
        sea, worlds = stays((CLEAR, CLEAR)), (full(20), full(10))
        self.assertEqual(error_of(sailed, sea, worlds, watch=(0, 1)), ("TooMany", "state"))
        self.assertEqual(light_lots(sea, worlds, Eye.fair(), 1, 0), ((0,), (1,)))
        # Here one of them is.
        sea = stays((CLEAR, CLEAR), (".rrr", CLEAR))
        worlds = (ring("w" * 20, "x"), ring("w" * 3, "y"))
        self.assertEqual(error_of(sailed, sea, worlds, watch=(0, 1)), ("TooMany", "state"))
        self.assertEqual(light_lots(sea, worlds, Eye.fair(), 1, 1), ((0,),))
        # And here none: so both together are asked.
        self.assertEqual(error_of(light_lots, sea, worlds, Eye.fair(), 1, 0), ("TooMany", "state"))
        # With three lights, (0, 1) and (0, 2) are left out, (1, 2) is asked.
        sea = stays((CLEAR, CLEAR, CLEAR), (".rrr", CLEAR, CLEAR))
        worlds = (ring("w", "x"), ring("w" * 24, "y"), ring("w" * 23, "z"))
        self.assertEqual(error_of(light_lots, sea, worlds, Eye.fair(), 1, 1), ("TooMany", "state"))
        self.assertEqual(light_lots(sea, (worlds[0],) * 2 + (ring("w" * 4, "z"),), Eye.fair(), 1, 1), ((0,), ))

    def test_pairs(self):
        sea = stays((CLEAR, CLEAR))
        self.assertEqual(light_lots(sea, (many_together(1), full(2)), Eye.fair(), 1, 0), ((0,), (1,)))
        self.assertEqual(error_of(light_lots, sea, (many_together(2), full(2)), Eye.fair(), 1, 0), ("TooMany", "pair"))
        self.assertEqual(error_of(light_lots, sea, (full(2), many_together(2)), Eye.fair(), 1, 0), ("TooMany", "pair"))

    def test_in_the_order_told(self):
        # The lots of one light come ahead of those of two; of these, (0, 2) has too many pairs, (1, 2) too many states.
        sea = stays((CLEAR,) * 3, (CLEAR,) * 3)
        free = World("w" * 24, [tuple(range(24))] * 24, tuple(range(24)), ("",) * 24)
        worlds = (full(1), free, full(96))
        self.assertEqual(error_of(light_lots, sea, worlds, Eye.fair(), 1, 60), ("TooMany", "state"))
        self.assertEqual(error_of(light_lots, sea, (free, full(32), full(1)), Eye.fair(), 1, 60), ("TooMany", "pair"))
        self.assertEqual(error_of(light_lots, sea, (full(32), full(49), full(1)), Eye.fair(), 1, 60), ("TooMany", "pair"))
        self.assertEqual(error_of(light_lots, sea, (full(49), full(32), full(1)), Eye.fair(), 1, 60), ("TooMany", "state"))


if __name__ == "__main__":
    unittest.main()
