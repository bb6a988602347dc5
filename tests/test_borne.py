"""Point 24: lots of failings that a mind bears."""

import itertools
import unittest

from falseglim.borne import BorneLots
from falseglim.eyes import Eye
from falseglim.makers import either, ring
from falseglim.minds import Mind
from falseglim.nights import Nights
from falseglim.ways import failing
from falseglim.weathers import eye_of
from falseglim.worlds import World
from tests.helpers import ODD, error_of, many_nights
from tests.test_ways import NO_WAYS

OUT, OPEN, LAME, SLIP = ("glass", "...."), ("glass", "wwww"), ("lame", 2), ("slip", 9)


def told_spoilers(mind, worlds, eye, menu):
    """For each lot, in ascending order, its spoiler or None."""
    lots = sorted(lot for many in range(len(menu) + 1) for lot in itertools.combinations(range(len(menu)), many))
    found = {}
    for lot in lots:
        found[lot] = None
        for number, world in reversed(list(enumerate(worlds))):
            nights = Nights(mind, failing(world, *[menu[at] for at in lot]), eye)
            if nights.misled_pairs:
                found[lot] = (number, nights[nights.misled_pairs[0]])
    return found


class TestBorneLots(unittest.TestCase):
    def setUp(self):
        self.mind = Mind(either(failing(ring("w..", "a"), OUT), ring("wg", "b"), ring("g..", "c")), Eye.fair())
        self.worlds = (ring("w..", "a"), ring("wg", "b"))

    def test_attributes(self):
        eye, menu = Eye.fair(), [list(OUT), list(SLIP)]
        borne = BorneLots(self.mind, list(self.worlds), eye, menu)
        self.assertIs(borne.mind, self.mind)
        self.assertEqual(borne.worlds, self.worlds)
        self.assertIsInstance(borne.worlds, tuple)
        self.assertIs(borne.worlds[1], self.worlds[1])
        self.assertIs(borne.eye, eye)
        self.assertEqual(borne.menu, (OUT, SLIP))
        self.assertIsInstance(borne.menu[0], tuple)
        self.assertEqual(menu, [list(OUT), list(SLIP)])

    def test_lots_and_spoilers(self):
        menu = (OUT, OPEN, LAME)
        borne = BorneLots(self.mind, self.worlds[:1], Eye.fair(), menu)
        told = told_spoilers(self.mind, self.worlds[:1], Eye.fair(), menu)
        self.assertIsNone(told[()])
        self.assertIsNone(told[(0,)])
        for lot, spoiler in told.items():
            self.assertEqual(borne.spoiler(lot), spoiler)
            self.assertEqual(borne.spoiler(list(lot)), spoiler)
        good = [lot for lot in told if told[lot] is None]
        self.assertEqual(borne.lots, tuple(lot for lot in good if not any(
            set(lot) < set(other) for other in good)))
        self.assertIsInstance(borne.lots, tuple)

    def test_the_number_of_the_first_world(self):
        worlds = (ring("w..", "a"), ring("g..", "c"), ring("g..", "a"), ring("g..", "b"))
        borne = BorneLots(self.mind, worlds, Eye.fair(), (OUT,))
        self.assertEqual(borne.spoiler(()), (2, ".g"))
        self.assertEqual(borne.spoiler((0,)), told_spoilers(self.mind, worlds, Eye.fair(), (OUT,))[(0,)])
        self.assertEqual(borne.spoiler((0,))[0], 1)
        self.assertEqual(borne.lots, ())

    def test_an_empty_menu(self):
        borne = BorneLots(self.mind, self.worlds, Eye.fair(), ())
        self.assertEqual((borne.lots, borne.spoiler(())), (((),), None))
        wrong = BorneLots(self.mind, (ring("w..", "b"),), Eye.fair(), ())
        self.assertEqual(wrong.lots, ())
        self.assertEqual(wrong.spoiler(()), (0, ".w"))

    def test_several_greatest_lots(self):
        # Going out is borne, and so is being stuck open; both together are not.
        mind = Mind(either(failing(ring("w..", "a"), ("standin", "g")), failing(ring("w..", "a"), ("standin", "r")),
                           ring("gr", "b")), Eye.fair())
        menu = (("standin", "g"), ("standin", "r"))
        borne = BorneLots(mind, (ring("w..", "a"),), Eye.fair(), menu)
        told = told_spoilers(mind, (ring("w..", "a"),), Eye.fair(), menu)
        self.assertEqual([lot for lot in told if told[lot] is None], [(), (0,), (1,)])
        self.assertEqual(borne.lots, ((0,), (1,)))
        self.assertEqual(borne.spoiler((0, 1)), told[(0, 1)])

    def test_against_a_second_reckoning(self):
        found = set()
        eyes = (Eye.fair(), eye_of((("lose", 1),)))
        minds = (self.mind, Mind(either(ring("w..", "a"), ring("g.", "b")), eyes[1]),
                 Mind(either(failing(ring("w..", "a"), OUT), failing(ring("ww.", "b"), ("slip", 3))), eyes[0]))
        for mind in minds:
            for eye in eyes:
                for menu in ((OUT, LAME, ("slip", 3)), (("restart", 1), OPEN)):
                    for worlds in (self.worlds[:1], (ring("ww.", "b"), ring("w..", "a"))):
                        told = error_of(told_spoilers, mind, worlds, eye, menu)
                        if not isinstance(told, dict):
                            self.assertEqual(error_of(BorneLots, mind, worlds, eye, menu), told)
                            continue
                        borne = BorneLots(mind, worlds, eye, menu)
                        self.assertEqual({lot: borne.spoiler(lot) for lot in told}, told)
                        good = [lot for lot in told if told[lot] is None]
                        self.assertEqual(borne.lots, tuple(
                            lot for lot in good if not any(set(lot) < set(other) for other in good)))
                        found.add(borne.lots)
        self.assertGreater(len(found), 3)

    def test_the_order_in_a_lot_is_that_of_the_numbers(self):
        menu = (("glass", ".ggg"), ("glass", ".rrr"))
        mind = Mind(either(failing(ring("w", "a"), *menu), ring("r", "b")), Eye.fair())
        self.assertEqual(BorneLots(mind, (ring("w", "a"),), Eye.fair(), menu).spoiler((0, 1)),
                         told_spoilers(mind, (ring("w", "a"),), Eye.fair(), menu)[(0, 1)])
        borne = BorneLots(Mind(ring("w", "b"), Eye.fair()), (ring("w", "a"),), Eye.fair(), (("restart", 1), OUT))
        self.assertEqual(borne.lots, ())

    def test_bad_worlds(self):
        mind, large, eye = many_nights(79, 19)
        for odd in ODD + ((), [], (large,) * 7, large, {0: large}, (None,), (large, "w")):
            self.assertEqual(error_of(BorneLots, mind, odd, eye, None), ("BadWorlds", -1))
        self.assertEqual(len(BorneLots(self.mind, self.worlds * 3, Eye.fair(), ()).worlds), 6)

    def test_bad_menus(self):
        mind, large, eye = many_nights(79, 19)
        for odd in [thing for thing in ODD if not isinstance(thing, (tuple, list))] + [
                (OUT,) * 5, [None] * 5, "glass", {OUT: 1}]:
            self.assertEqual(error_of(BorneLots, mind, (large,), eye, odd), ("BadMenu", -1))
        for odd in NO_WAYS:
            self.assertEqual(error_of(BorneLots, mind, (large,), eye, (OUT, odd, odd)), ("BadWay", 1))
        self.assertEqual(len(BorneLots(Mind(ring("w", "a"), eye), (ring("w", "a"),), eye, (OUT,) * 4).menu), 4)

    def test_bad_lots(self):
        borne = BorneLots(self.mind, self.worlds, Eye.fair(), (OUT, LAME))
        for odd in [thing for thing in ODD if thing not in ((), [], (0,))] + [
                (2,), (-1,), (1, 0), (0, 0), (0, 1, 2), (True,), (False, 1), "01", {0: 1}, (0.0,), ((0,),), 10 ** 39]:
            told = error_of(borne.spoiler, odd)
            self.assertEqual(told[0], "BadLot")
            self.assertIs(told[1], odd)

    def test_too_many_states(self):
        large = either(ring("w" * 24, "a"), ring("w" * 24, "a"), ring("g", "a"))
        mind = Mind(ring("w", "a"), Eye.fair())
        self.assertEqual(error_of(BorneLots, mind, (large,), Eye.fair(), (OUT,)), ("TooMany", "state"))
        # Also behind a world by which the mind is misled already.
        self.assertEqual(error_of(BorneLots, mind, (ring("w", "b"), large), Eye.fair(), (OUT,)), ("TooMany", "state"))
        self.assertEqual(BorneLots(mind, (ring("w", "b"), large), Eye.fair(), ()).spoiler(()), (0, ""))
        # A lot whose part is not borne is gone through as well.
        self.assertEqual(error_of(BorneLots, mind, (ring("w" * 24, "b"),), Eye.fair(), (OUT, ("restart", 3))),
                         ("TooMany", "state"))

    def test_whichever_is_due_first(self):
        mind, many, eye = many_nights(79, 19)
        large = World("w" * 49, [(state,) for state in range(49)], tuple(range(49)), ("a",) * 49)
        # The nights of the empty lot come ahead of the states of the others.
        self.assertEqual(error_of(BorneLots, mind, (many,), eye, (OUT,)), ("TooMany", "night"))
        self.assertEqual(error_of(BorneLots, mind, (many, large), eye, (OUT,)), ("TooMany", "night"))
        few = Mind(ring("w", "a"), eye)
        self.assertEqual(len(Nights(few, large, eye)), 49)
        self.assertEqual(error_of(BorneLots, few, (large, many), eye, (OUT,)), ("TooMany", "state"))
        self.assertEqual(error_of(BorneLots, few, (ring("w", "b"), large, many), eye, (OUT,)), ("TooMany", "state"))
        chain, free, eye = many_nights(60, 20)
        self.assertEqual(len(Nights(chain, free, eye)), 1200)
        # Failing, the first world has too many nights; the second one would have too many states.
        cold = World("g" * 49, [(state,) for state in range(49)], tuple(range(49)), ("a",) * 49)
        self.assertEqual(BorneLots(chain, (free, cold), eye, ()).spoiler(()), (0, ""))
        self.assertEqual(error_of(BorneLots, chain, (free, cold), eye, (OPEN,)), ("TooMany", "night"))
        self.assertEqual(error_of(BorneLots, chain, (cold, free), eye, (OPEN,)), ("TooMany", "state"))


if __name__ == "__main__":
    unittest.main()
