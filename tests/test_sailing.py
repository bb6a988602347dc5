"""Point 39: what a ship sees of some lights while she sails."""

import itertools
import unittest

from falseglim.eyes import Eye
from falseglim.hindsight import Hindsight
from falseglim.makers import ring
from falseglim.minds import Mind
from falseglim.sailing import sailed
from falseglim.seas import Sea
from falseglim.trust import Trust
from falseglim.worlds import World
from tests.helpers import ODD, SIGNS, error_of, listed, some_world
from tests.test_makers import full, made
from tests.test_seas import some_sea

CLEAR = ".grw"
SEA = Sea(("bay", "cape"), ((0, 1), (1,)), (0,), ((CLEAR, ".ggg", CLEAR), (".rrr", CLEAR, "....")))
WORLDS = (ring("w..", "x"), ring("w.", "y"), ring("g", "z"))


def told_world(sea, worlds, watch, beats, ask):
    """The sailed world by the words of the document."""
    turns = len(watch) * beats

    def follow(place):
        nexts = [worlds[light].goes[state] for light, state in zip(watch, place[2:])]
        return list(itertools.product([(place[0] + 1) % turns], sea.ways[place[1]], *nexts))

    def look(place):
        number = place[0] // beats
        light, region = watch[number], place[1]
        sign = sea.sectors[region][light][SIGNS.index(worlds[light].shows[place[2 + number]])]
        return sign, sea.regions[region] if ask == "region" else worlds[watch[0]].marks[place[2]]

    return made(list(itertools.product([0], sea.begins, *[worlds[light].begins for light in watch])), follow, look)


class TestSailed(unittest.TestCase):
    def test_one_light(self):
        world = sailed(SEA, WORLDS, watch=(1,))
        # The states are (0, bay, 0), (0, bay, 1), (0, cape, 0), (0, cape, 1).
        self.assertEqual(world, World("g.w.", ((1, 3), (0, 2), (3,), (2,)), (0, 1), ("bay",) * 2 + ("cape",) * 2))
        self.assertIsInstance(world, World)

    def test_by_turns(self):
        world = sailed(SEA, WORLDS, watch=(0, 2), beats=2, ask="light")
        self.assertEqual(world, told_world(SEA, WORLDS, (0, 2), 2, "light"))
        self.assertEqual({mark for _, _, mark in world}, {"x"})
        # Behind two beats of the first light comes the third one, green in the bay and dark at the cape.
        self.assertTrue(world.ends("w.gg"))
        self.assertTrue(world.ends("w.g."))
        self.assertFalse(world.ends("w.w"))
        self.assertTrue(world.ends("..gg."))
        self.assertFalse(world.ends("..ggw"))

    def test_marks(self):
        world = sailed(SEA, WORLDS, watch=[1, 2], ask="light")
        self.assertEqual({mark for _, _, mark in world}, {"y"})
        self.assertEqual({mark for _, _, mark in sailed(SEA, WORLDS, watch=[1, 2])}, {"bay", "cape"})
        parted = World("w.", ((1,), (0,)), (0,), ("", "b"))
        self.assertEqual(sailed(SEA, (parted,) + WORLDS[1:], watch=(0,), ask="light").marks, ("", "b", "", "b"))

    def test_the_order_of_the_states(self):
        # Only the tuples that are come to: with two beginnings alone, half of the places at each turn.
        sea = Sea(("a", "b"), ((1,), (0,)), (0,), ((CLEAR,) * 2, (CLEAR,) * 2))
        world = sailed(sea, (ring("wg", "x", 0), ring("r.", "y", 0)), watch=(0, 1))
        self.assertEqual(world, World("w.", ((1,), (0,)), (0,), ("a", "b")))

    def test_against_the_words(self):
        counts = set()
        for seed in range(150):
            sea = some_sea(seed, 1 + seed % 3)
            lights = len(sea.sectors[0])
            worlds = tuple(some_world(seed + number, 1 + (seed + number) % 3) for number in range(lights))
            for many in range(1, lights + 1):
                for watch in itertools.combinations(range(lights), many):
                    beats = (1, 2, 9)[seed % 3] if many == 1 else 1 + seed % 2
                    for ask in ("region", "light"):
                        told = error_of(told_world, sea, worlds, watch, beats, ask)
                        if told == ("BadShows", -1):
                            told = ("TooMany", "state")
                        self.assertEqual(error_of(sailed, sea, worlds, watch=watch, beats=beats, ask=ask), told)
                    counts.add((many, isinstance(told, World)))
        self.assertLessEqual({(1, True), (2, True), (3, True), (3, False)}, counts)

    def test_nine_beats(self):
        world = sailed(SEA, WORLDS, watch=(1, 2), beats=9)
        self.assertEqual(world, told_world(SEA, WORLDS, (1, 2), 9, "region"))
        self.assertEqual(len(sailed(SEA, WORLDS, watch=(0, 1, 2))), 36)

    def test_lists(self):
        world = sailed(SEA, list(WORLDS), watch=[0, 1], beats=1, ask="region")
        self.assertEqual(world, sailed(SEA, WORLDS, watch=(0, 1)))

    def test_errors_in_their_order(self):
        for odd in [odd for odd in ODD if odd != []] + [[], (), WORLDS[:2], WORLDS + WORLDS[:1], WORLDS[0], WORLDS[:2] + (None,),
                                                        ("w.",) + WORLDS[1:], {0: WORLDS[0], 1: WORLDS[1], 2: WORLDS[2]}]:
            self.assertEqual(error_of(sailed, SEA, odd, watch=None, beats=None, ask=None), ("BadWorlds", -1))
        for odd in [thing for thing in ODD if thing != (0,)] + [(1, 0), (0, 0), (3,), (-1,), (0, 3), (0, 1, 2, 3), (True,), "0",
                                                                (None,), {0: 1}, (0.0,), 1]:
            told = error_of(sailed, SEA, WORLDS, watch=odd, beats=None, ask=None)
            self.assertEqual(told[0], "BadWatch")
            self.assertIs(told[1], odd)
        for odd in [thing for thing in ODD if type(thing) is not int] + [0, 10, -1, "1", (1,), 10 ** 39]:
            told = error_of(sailed, SEA, WORLDS, watch=(0,), beats=odd, ask=None)
            self.assertEqual(told[0], "BadBeats")
            self.assertIs(told[1], odd)
        for odd in ODD + ("Region", "regions", "re", "lights", ("region",), ["light"], 1):
            told = error_of(sailed, SEA, WORLDS, watch=(0,), beats=1, ask=odd)
            self.assertEqual(told[0], "BadKind")
            self.assertIs(told[1], odd)
        # All of them go ahead of the states.
        large = (full(96),) * 3
        self.assertEqual(error_of(sailed, SEA, large, watch=(0, 1), beats=1, ask="x"), ("BadKind", "x"))
        self.assertEqual(error_of(sailed, SEA, large, watch=(0, 1)), ("TooMany", "state"))

    def test_ninety_six_states(self):
        sea = Sea(("a", "b"), ((0, 1), (0, 1)), (0, 1), ((CLEAR, CLEAR),) * 2)
        self.assertEqual(len(sailed(sea, (full(48), full(1)), watch=(0,))), 96)
        self.assertEqual(len(sailed(sea, (full(24), full(1)), watch=(0, 1), beats=1)), 96)
        self.assertEqual(len(sailed(sea, (full(16), full(1)), watch=(0,), beats=3)), 96)
        for many, watch, beats in ((49, (0,), 1), (25, (0, 1), 1), (17, (0,), 3), (48, (0, 1), 1)):
            self.assertEqual(error_of(sailed, sea, (full(many), full(1)), watch=watch, beats=beats), ("TooMany", "state"))
        # What is not watched does not count.
        self.assertEqual(len(sailed(sea, (full(96), full(48)), watch=(1,))), 96)
        # 97 states that are come to one by one.
        chain = World("w" * 96, [(min(state + 1, 95),) for state in range(96)], (0,), ("",) * 96)
        one = Sea(("a",), ((0,),), (0,), ((CLEAR,),))
        self.assertEqual(len(sailed(one, (chain,), watch=(0,))), 96)
        self.assertEqual(error_of(sailed, Sea(("a", "b"), ((0, 1), (1,)), (0,), ((CLEAR,), (CLEAR,))), (chain,), watch=(0,)),
                         ("TooMany", "state"))


class TestWhereSheIs(unittest.TestCase):
    def test_told_back(self):
        # Two regions between which she does not sail: red at the one, white at the other.
        sea = Sea(("a", "b"), ((0,), (1,)), (0, 1), ((CLEAR,), (".rrr",)))
        world = sailed(sea, (ring("w..", "x"),), watch=(0,))
        self.assertEqual(Hindsight(world, Eye.fair()).delay, 3)
        self.assertIs(bool(Hindsight(world, Eye.through(".www"))), False)

    def test_another_sea_than_the_true_one(self):
        right = Sea(("a", "b"), ((0,), (1,)), (0, 1), ((CLEAR,), (".rrr",)))
        wrong = Sea(("a", "b"), ((0,), (1,)), (0, 1), ((".rrr",), (CLEAR,)))
        worlds = (ring("w..", "x"),)
        mind = Mind(sailed(wrong, worlds, watch=(0,)), Eye.fair())
        self.assertEqual(Trust(mind, sailed(right, worlds, watch=(0,)), Eye.fair()).breach, ("r", "a", (4, 0)))
        self.assertTrue(Trust(mind, sailed(wrong, worlds, watch=(0,)), Eye.fair()))

    def test_parts_that_are_passed_are_not_changed(self):
        worlds, watch = list(WORLDS), [0, 1]
        sailed(SEA, worlds, watch=watch)
        self.assertEqual((worlds, watch), (list(WORLDS), [0, 1]))
        self.assertEqual(listed(SEA.sectors), [[CLEAR, ".ggg", CLEAR], [".rrr", CLEAR, "...."]])


if __name__ == "__main__":
    unittest.main()
