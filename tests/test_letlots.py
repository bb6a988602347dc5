"""Point 51: signals that are let, and the reason where they are not."""

import unittest

from falseglim.eyes import Eye
from falseglim.hindsight import Hindsight
from falseglim.letlots import LetLots
from falseglim.makers import either, ring
from falseglim.minds import Mind
from falseglim.nights import Nights
from falseglim.signals import Signals, talking_light, talking_world
from falseglim.weathers import eye_of
from falseglim.worlds import World
from tests.helpers import ODD, error_of
from tests.test_notices import all_lots
from tests.test_ships import heavy_eye
from tests.test_signals import some_signals

FAIR = Eye.fair()
# The far mind knows two lights: one of them may flash twice now and then.
MIND = Mind(either(ring("w...", "anna"), ring("ww..", "bell")), FAIR)


def told_reason(signals, near, delay, mind, name, far, lot):
    """The reason of a lot by the words of the document."""
    part = Signals(signals.plain, tuple(signals.signals[number] for number in lot))
    verdict = Hindsight(talking_world(part), near)
    if not verdict or verdict.delay > delay:
        return ("near",)
    nights = Nights(mind, talking_light(part, name), far)
    return ("far", nights[nights.misled_pairs[0]]) if nights.misled_pairs else None


def greatest_of(lots):
    return tuple(lot for lot in lots if not any(set(lot) < set(other) for other in lots))


class TestLetLots(unittest.TestCase):
    def test_attributes(self):
        signals, near, far = Signals("w...", (("a", "g..."),)), Eye.fair(), Eye.fair()
        told = LetLots(signals, near, 60, MIND, "anna", far)
        self.assertIs(told.signals, signals)
        self.assertIs(told.near, near)
        self.assertIs(told.mind, MIND)
        self.assertIs(told.far, far)
        self.assertEqual((told.delay, told.name), (60, "anna"))
        self.assertIsInstance(told.lots, tuple)

    def test_lots_and_reasons(self):
        # Green is amiss for the far mind; two white ones are the other light.
        signals = Signals("w...", (("a", "g..."), ("b", "ww.."), ("c", "w...w...w...")))
        told = LetLots(signals, FAIR, 12, MIND, "anna", FAIR)
        self.assertEqual(told.reason(()), None)
        self.assertEqual(told.reason((0,)), None)
        self.assertEqual(told.reason((1,)), ("far", "ww"))
        self.assertEqual(told.reason([0, 1]), ("far", "ww"))
        # Three plain rounds are the third word: even near nobody could tell.
        self.assertEqual(told.reason((2,)), ("near",))
        self.assertEqual(told.reason((1, 2)), ("near",))
        self.assertEqual(told.lots, ((0,),))

    def test_the_near_eye_goes_ahead(self):
        signals = Signals("w...", (("a", "ww.."), ("b", "ww..")))
        told = LetLots(signals, FAIR, 60, MIND, "anna", FAIR)
        self.assertEqual([told.reason(lot) for lot in all_lots(2)], [None, ("far", "ww"), ("near",), ("far", "ww")])
        self.assertEqual(told.lots, ((),))

    def test_the_delay(self):
        signals = Signals("w...", (("a", "w..g"), ("b", "wg..")))
        for delay, reasons in ((0, [None, ("near",), ("near",), ("near",)]), (1, [None, ("near",), ("near",), ("near",)]),
                               (2, [None, ("near",), ("near",), None]), (4, [None, None, None, None])):
            told = LetLots(signals, FAIR, delay, MIND, "anna", FAIR)
            self.assertEqual([told.reason(lot) for lot in all_lots(2)], reasons, delay)

    def test_several_greatest_lots(self):
        signals = Signals("w...", (("a", "g..."), ("b", "gr.."), ("c", "g...")))
        told = LetLots(signals, FAIR, 60, MIND, "anna", FAIR)
        self.assertEqual(told.lots, ((0, 1), (1, 2)))

    def test_none_at_all(self):
        # The plain round alone misleads already.
        told = LetLots(Signals("ww..", (("a", "g"),)), FAIR, 60, MIND, "anna", FAIR)
        self.assertEqual(told.lots, ())
        self.assertEqual(told.reason(())[0], "far")
        # The empty lot: there is but one piece, so it is always told back.
        self.assertEqual(LetLots(Signals("w..."), FAIR, 0, MIND, "anna", FAIR).lots, ((),))
        self.assertEqual(LetLots(Signals("w...", (("a", "g..."),)), Eye.through(".www"), 60, MIND, "anna", FAIR).lots, ((),))

    def test_against_the_words(self):
        found = set()
        for seed in range(100):
            signals = some_signals(seed, most=3, longest=3)
            near = (FAIR, eye_of((("miss", 1, 3),)))[seed % 2]
            far = (FAIR, eye_of((("lose", 1),)))[seed // 2 % 2]
            mind = Mind(either(ring("w.", "a"), ring("g", "b"), talking_light(Signals(signals.plain), "c")), far)
            name, delay = "abc"[seed % 3] if seed % 4 else "c", (2, 4, 60)[seed % 3]
            told = LetLots(signals, near, delay, mind, name, far)
            reasons = {lot: told_reason(signals, near, delay, mind, name, far, lot) for lot in all_lots(len(signals))}
            self.assertEqual({lot: told.reason(lot) for lot in reasons}, reasons)
            self.assertEqual(told.lots, greatest_of([lot for lot in reasons if reasons[lot] is None]))
            found.update((len(told.lots) > 0, reason and reason[0]) for reason in reasons.values())
            # A part of a lot that is let is let.
            for lot in reasons:
                for other in reasons:
                    if reasons[lot] is None and set(other) < set(lot):
                        self.assertIsNone(reasons[other])
        self.assertEqual(found, {(True, None), (True, "near"), (True, "far"), (False, "far"), (False, "near")})

    def test_reasons_are_shown_again(self):
        signals = Signals("w...", (("a", "g..."), ("b", "ww..")))
        told = LetLots(signals, FAIR, 60, MIND, "anna", FAIR)
        _, look = told.reason((0, 1))
        self.assertEqual(MIND.sure_of(MIND(look)), "bell")
        self.assertTrue(talking_light(signals, "anna").ends(look))


class TestErrors(unittest.TestCase):
    def test_delays_and_names(self):
        signals = Signals("w")
        for odd in [thing for thing in ODD if type(thing) is not int] + [-1, 61, "1", (1,), 10 ** 39]:
            told = error_of(LetLots, signals, FAIR, odd, MIND, None, FAIR)
            self.assertEqual(told[0], "BadDelay")
            self.assertIs(told[1], odd)
        for odd in ODD[:6] + ("", "Anna", "a b", "-", "abcdefghi", ("anna",), ["anna"], b"anna", {}, None):
            told = error_of(LetLots, signals, heavy_eye(), 60, MIND, odd, heavy_eye())
            self.assertEqual(told[0], "BadMark")
            self.assertIs(told[1], odd)

    def test_lots(self):
        told = LetLots(Signals("w...", (("a", "g..."),)), FAIR, 60, MIND, "anna", FAIR)
        for odd in [thing for thing in ODD if thing not in ((), (0,), [])] + [(1,), (-1,), (0, 0), (True,), (False,), "0", (None,),
                                                                               {0: 1}, (0.0,), 1, "a", ("a",)]:
            caught = error_of(told.reason, odd)
            self.assertEqual(caught[0], "BadLot")
            self.assertIs(caught[1], odd)

    def test_too_many(self):
        # Through this eye two states of a world come together in all ways: many of them have too many pairs.
        calm = Mind(World(".", ((0,),), (0,), ("anna",)), FAIR)
        self.assertEqual(LetLots(Signals("w"), heavy_eye(), 60, calm, "anna", FAIR).lots, ((),))
        self.assertEqual(error_of(LetLots, Signals("w" * 24), heavy_eye(), 60, calm, "anna", FAIR), ("TooMany", "pair"))
        # It may be due for a lot that is not the first one.
        self.assertEqual(error_of(LetLots, Signals("w", (("a", "gg"),)), heavy_eye(), 60, calm, "anna", FAIR), ("TooMany", "pair"))
        slow = Mind(World("." * 96, [(min(state + 1, 95),) for state in range(96)], (0,), ("anna",) * 96), FAIR)
        self.assertEqual(error_of(LetLots, Signals("w"), FAIR, 60, slow, "anna", heavy_eye()), ("TooMany", "night"))
        # The far mind is asked only if all is well with the near eye.
        few = Signals("w", (("a", "ww"),))
        self.assertEqual(error_of(LetLots, few, FAIR, 60, slow, "anna", heavy_eye()), ("TooMany", "night"))
        told = LetLots(few, FAIR, 60, calm, "anna", heavy_eye())
        self.assertEqual((told.lots, told.reason((0,))), (((),), ("near",)))

    def test_the_far_mind_is_not_asked_where_the_near_eye_fails(self):
        # With the words there are more states of the light: too many nights, if they were asked.
        slow = Mind(World("." * 40, [(min(state + 1, 39),) for state in range(40)], (0,), ("anna",) * 40), FAIR)
        signals = Signals("w", (("a", "w" * 2),))
        nights = Nights(slow, talking_light(Signals("w"), "anna"), heavy_eye())
        self.assertLess(len(nights), 1500)
        self.assertEqual(error_of(Nights, slow, talking_light(signals, "anna"), heavy_eye()), ("TooMany", "night"))
        told = LetLots(signals, FAIR, 60, slow, "anna", heavy_eye())
        self.assertEqual((told.lots, told.reason((0,))), (((),), ("near",)))


if __name__ == "__main__":
    unittest.main()
