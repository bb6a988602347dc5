"""Point 28: cautions."""

import itertools
import unittest

from falseglim.cautions import Cautions
from falseglim.eyes import Eye
from falseglim.makers import either, marked, ring
from falseglim.minds import Mind
from falseglim.nights import Nights
from falseglim.weathers import eye_of
from falseglim.worlds import World
from tests.helpers import ODD, error_of, many_nights, some_truth, some_world


def told_spoilers(mind, world, eye, menu):
    """For each lot, in ascending order, its spoiler or None."""
    found = {}
    lots = sorted(lot for many in range(len(menu) + 1) for lot in itertools.combinations(range(len(menu)), many))
    for lot in lots:
        careful = Mind(either(mind.world, *[marked(menu[number], "") for number in lot]), mind.eye)
        nights = Nights(careful, world, eye)
        found[lot] = nights[nights.misled_pairs[0]] if nights.misled_pairs else None
    return found


class TestCautions(unittest.TestCase):
    def setUp(self):
        self.mind = Mind(either(ring("w..", "a"), ring("w...", "b")), Eye.fair())
        self.world = ring("w....", "c")

    def test_attributes(self):
        eye, menu = Eye.fair(), [ring("g", "x"), self.world]
        cautions = Cautions(self.mind, self.world, eye, menu)
        self.assertIs(cautions.mind, self.mind)
        self.assertIs(cautions.world, self.world)
        self.assertIs(cautions.eye, eye)
        self.assertEqual(cautions.menu, tuple(menu))
        self.assertIsInstance(cautions.menu, tuple)
        self.assertIs(cautions.menu[1], self.world)
        self.assertEqual(len(menu), 2)

    def test_lots_and_spoilers(self):
        # A ring of five beats is enough, and so is one of six: as long as the rings of the mind fit, they fit as well.
        menu = (ring("g", "x"), self.world, ring("w.....", "y"), ring("w....", ""))
        cautions = Cautions(self.mind, self.world, Eye.fair(), menu)
        told = told_spoilers(self.mind, self.world, Eye.fair(), menu)
        for lot, spoiler in told.items():
            self.assertEqual(cautions.spoiler(lot), spoiler)
            self.assertEqual(cautions.spoiler(list(lot)), spoiler)
        self.assertEqual(cautions.spoiler(()), "...")
        self.assertEqual(cautions.lots, ((1,), (2,), (3,)))
        self.assertIsInstance(cautions.lots, tuple)

    def test_a_caution_hides_the_mark_whatever_it_was(self):
        # The caution has the mark a itself; the mind is not sure of it while it is possible.
        mind = Mind(ring("w.", "a"), Eye.fair())
        cautions = Cautions(mind, ring("w.", "b"), Eye.fair(), (ring("w.", "a"),))
        self.assertEqual(cautions.lots, ((0,),))
        self.assertEqual(cautions.spoiler(()), "")

    def test_lots_of_two(self):
        mind = Mind(ring("w", "a", 0), Eye.fair())
        truth = either(World("wg", [(0, 1), (1,)], (0,), ("b", "b")), ring("w", "c"))
        menu = (World("wg", [(1,), (1,)], (0,), ("", "")), ring("w", "x"), ring("g", "x"))
        told = told_spoilers(mind, truth, Eye.fair(), menu)
        cautions = Cautions(mind, truth, Eye.fair(), menu)
        self.assertEqual([lot for lot in told if told[lot] is None], [lot for lot in told if 1 in lot])
        self.assertEqual(cautions.lots, ((1,),))
        both = Mind(either(ring("w", "a", 0), ring("g", "b", 0)), Eye.fair())
        truth = either(ring("w", "c", 0), ring("g", "c", 0))
        cautions = Cautions(both, truth, Eye.fair(), (ring("w", "x"), ring("g", "x"), either(ring("g", "y"), ring("w", "z"))))
        self.assertEqual(cautions.lots, ((0, 1), (2,)))
        self.assertEqual((cautions.spoiler((0,)), cautions.spoiler((1,))), ("g", "w"))

    def test_none_at_all(self):
        cautions = Cautions(self.mind, self.world, Eye.fair(), (ring("g", "x"), ring("r", "x")))
        self.assertEqual(cautions.lots, ())
        self.assertEqual(cautions.spoiler((0, 1)), "...")
        self.assertEqual(Cautions(self.mind, self.world, Eye.fair(), ()).lots, ())
        self.assertEqual(Cautions(self.mind, ring("w..", "a"), Eye.fair(), ()).lots, ((),))
        self.assertEqual(Cautions(self.mind, ring("w..", "a"), Eye.fair(), (ring("w", "a"),)).lots, ((),))

    def test_the_supposed_eye_stays(self):
        mind = Mind(ring("w", "a"), eye_of((("lose", 1),)))
        cautions = Cautions(mind, ring("w.", "b"), Eye.fair(), (ring("w.", "x"), ring("w" * 9 + ".", "x")))
        told = told_spoilers(mind, ring("w.", "b"), Eye.fair(), (ring("w.", "x"), ring("w" * 9 + ".", "x")))
        self.assertEqual({lot: cautions.spoiler(lot) for lot in told}, told)

    def test_against_a_second_reckoning(self):
        found = set()
        for seed in range(80):
            mind, world, eye = some_truth(seed, 3)
            menu = [some_world(seed + number, 2, ".gw") for number in (1, 2)] + [world][:seed % 2]
            told = told_spoilers(mind, world, eye, menu)
            cautions = Cautions(mind, world, eye, menu)
            self.assertEqual({lot: cautions.spoiler(lot) for lot in told}, told)
            good = [lot for lot in told if told[lot] is None]
            self.assertEqual(cautions.lots, tuple(
                lot for lot in good if not any(set(other) < set(lot) for other in good)))
            found.add(cautions.lots)
        self.assertGreater(len(found), 3)

    def test_the_numbers_are_put_behind_the_own_world(self):
        # The order decides nothing but the numbers of the standings; the marks and looks are the same.
        menu = (ring("w....", "x"), ring("w...", "y"))
        first = Cautions(self.mind, self.world, Eye.fair(), menu)
        second = Cautions(self.mind, self.world, Eye.fair(), menu[::-1])
        self.assertEqual(first.spoiler((0,)), second.spoiler((1,)))
        self.assertEqual(first.spoiler((1,)), second.spoiler((0,)))

    def test_bad_menus(self):
        mind, world, eye = many_nights(79, 19)
        for odd in [thing for thing in ODD if not isinstance(thing, (tuple, list))] + [
                (world,) * 5, [world] * 5, "menu", {world.shows: world}, world]:
            self.assertEqual(error_of(Cautions, mind, world, eye, odd), ("BadMenu", -1))
        self.assertEqual(len(Cautions(self.mind, self.world, eye, [ring("g", "")] * 4).menu), 4)

    def test_bad_lots(self):
        cautions = Cautions(self.mind, self.world, Eye.fair(), (ring("g", "x"), ring("r", "x")))
        for odd in [thing for thing in ODD if thing not in ((), [], (0,))] + [
                (2,), (-1,), (1, 0), (0, 0), (0, 1, 2), (True,), (False, 1), "01", {0: 1}, (0.0,), ((0,),), 10 ** 39]:
            told = error_of(cautions.spoiler, odd)
            self.assertEqual(told[0], "BadLot")
            self.assertIs(told[1], odd)

    def test_too_many(self):
        large = World("g" * 95, [(state,) for state in range(95)], tuple(range(95)), ("",) * 95)
        small = Mind(ring("w", "a"), Eye.fair())
        self.assertEqual(len(Cautions(small, ring("w", "a"), Eye.fair(), (large,)).lots), 1)
        self.assertEqual(error_of(Cautions, small, ring("w", "a"), Eye.fair(), (large, ring("g", ""))), ("TooMany", "state"))
        self.assertEqual(error_of(Cautions, small, ring("w", "b"), Eye.fair(), (large, ring("g", ""))), ("TooMany", "state"))
        mind, world, eye = many_nights(79, 19)
        self.assertEqual(error_of(Cautions, mind, world, eye, ()), ("TooMany", "night"))
        # The nights of the empty lot come ahead of the states of the next one.
        self.assertEqual(error_of(Cautions, mind, world, eye, (large,)), ("TooMany", "night"))
        mind, world, eye = many_nights(75, 20)
        self.assertEqual(error_of(Cautions, mind, world, eye, (large,)), ("TooMany", "state"))
        # With a caution there are more knowledges than without.
        chain = World("w" * 21, [(state + 1,) for state in range(20)] + [(0,)], (0,), ("",) * 21)
        self.assertEqual(error_of(Cautions, mind, world, eye, (chain,)), ("TooMany", "night"))
        self.assertEqual(error_of(Cautions, mind, world, eye, (chain, large)), ("TooMany", "night"))
        self.assertEqual(error_of(Cautions, mind, world, eye, (large, chain)), ("TooMany", "state"))


if __name__ == "__main__":
    unittest.main()
