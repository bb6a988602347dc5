"""Point 44: ships that have heard some notices, what they must hear, and digests."""

import unittest

from falseglim.coasts import Coast
from falseglim.eyes import Eye
from falseglim.makers import ring
from falseglim.minds import Mind
from falseglim.nights import Nights
from falseglim.notices import Notices
from falseglim.ships import Ships
from falseglim.weathers import eye_of
from tests.helpers import ODD, SIGNS, error_of, some_eye
from tests.test_notices import all_lots, some_notices, told_chart

OLD = Coast((("anna", "w.."), ("bell", "w...")))


def told_misled(lights, truth, supposed, eye):
    """What is told of a chart and a true coast, by the words of the document."""
    if not lights:
        return None
    mind = Mind(Coast(lights).as_world(), supposed)
    for name, row in truth:
        nights = Nights(mind, ring(row, name), eye)
        if nights.misled_pairs:
            pair = nights.misled_pairs[0]
            return (name, nights[pair], mind.sure_of(pair[1]))
    return None


def least_of(lots):
    """Those lots of which no other one is a proper part, by their numbers, then as tuples."""
    least = [lot for lot in lots if not any(set(other) < set(lot) for other in lots)]
    return tuple(sorted(least, key=lambda lot: (len(lot), lot)))


def told_ships(coast, things, supposed, eye):
    """For each lot what misleads; the lots that must be heard; the digests."""
    lots = all_lots(len(things))
    truth = told_chart(coast.lights, things, lots[-1] if not things else tuple(range(len(things))))
    charts = {lot: told_chart(coast.lights, things, lot) for lot in lots}
    told = {lot: told_misled(charts[lot], truth, supposed, eye) for lot in lots}
    enough = [lot for lot in lots if all(told[other] is None for other in lots if set(lot) <= set(other))]
    return told, least_of(enough), least_of([lot for lot in lots if set(charts[lot]) == set(truth)])


def heavy_eye(many=30):
    """An eye with so many states that sees all dark, whatever its state is."""
    return Eye([(state, sign, ".", later) for state in range(many) for sign in SIGNS
                for later in sorted({state, (state + 1) % many})])


class TestShips(unittest.TestCase):
    def test_attributes(self):
        notices, supposed, eye = Notices(OLD, (("strike", "anna"),)), Eye.fair(), Eye.fair()
        ships = Ships(notices, supposed, eye)
        self.assertIs(ships.notices, notices)
        self.assertIs(ships.supposed, supposed)
        self.assertIs(ships.eye, eye)
        self.assertIsInstance(ships.must_hear, tuple)
        self.assertIsInstance(ships.digests, tuple)

    def test_a_ship_that_is_misled(self):
        # The old light is gone, and another one shows what it showed.
        notices = Notices(OLD, (("strike", "anna"), ("set", "bell", "w..")))
        ships = Ships(notices, Eye.fair(), Eye.fair())
        self.assertEqual(ships.misled_by(()), ("bell", "w..w", "anna"))
        # With the first notice alone she has the other rhythm on her chart: what she sees is amiss.
        self.assertIsNone(ships.misled_by((0,)))
        # With the second one alone she knows two lights of one rhythm.
        self.assertIsNone(ships.misled_by([1]))
        self.assertIsNone(ships.misled_by((0, 1)))
        self.assertEqual(ships.must_hear, ((0,), (1,)))
        self.assertEqual(ships.digests, ((0, 1),))

    def test_the_first_light_of_the_true_coast(self):
        # Both lights mislead; told is the first one of the true coast, whatever their names are.
        notices = Notices(Coast((("x", "w...g"), ("y", "r"))), (
            ("set", "b", "r"), ("strike", "y"), ("set", "a", "w...g"), ("strike", "x")))
        ships = Ships(notices, Eye.fair(), Eye.fair())
        self.assertEqual(notices.true_coast.lights, (("b", "r"), ("a", "w...g")))
        self.assertEqual(ships.misled_by(()), ("b", "r", "y"))
        self.assertEqual(ships.misled_by((0, 1)), ("a", ".", "x"))

    def test_the_least_look(self):
        # A ship with one light on her chart is sure at once.
        ships = Ships(Notices(Coast((("a", "w."),)), (("set", "b", "g"), ("strike", "a"))), Eye.fair(), Eye.fair())
        self.assertEqual(ships.misled_by(()), ("b", "", "a"))
        self.assertEqual(ships.misled_by((0,)), None)
        self.assertEqual(ships.misled_by((1,)), None)

    def test_a_chart_without_lights(self):
        notices = Notices(OLD, (("strike", "anna"), ("strike", "bell"), ("set", "cape", "w..")))
        ships = Ships(notices, Eye.fair(), Eye.fair())
        self.assertEqual(notices.chart((0, 1)), Coast(()))
        self.assertIsNone(ships.misled_by((0, 1)))
        self.assertEqual(ships.misled_by((1,)), ("cape", "", "anna"))
        # Where the true coast has no light nobody is misled.
        dark = Ships(Notices(OLD, (("strike", "anna"), ("strike", "bell"))), Eye.fair(), Eye.fair())
        self.assertEqual([dark.misled_by(lot) for lot in all_lots(2)], [None] * 4)
        self.assertEqual((dark.must_hear, dark.digests), (((),), ((0, 1),)))
        none = Ships(Notices(Coast(()), ()), Eye.fair(), Eye.fair())
        self.assertEqual((none.must_hear, none.digests, none.misled_by(())), (((),), ((),), None))

    def test_lots_that_must_be_heard(self):
        # Not even the ship that has heard all is safe: the weather is worse than she supposes.
        notices = Notices(Coast((("anna", "w.."), ("bell", "w....."))), (("strike", "x"),))
        worse = Ships(notices, Eye.fair(), eye_of((("miss", 1, 5),)))
        self.assertEqual(worse.must_hear, ())
        self.assertEqual(worse.digests, ((),))
        for lot in ((), (0,)):
            self.assertEqual(worse.misled_by(lot), ("anna", "...", "bell"))
        # Here nothing must be heard.
        self.assertEqual(Ships(notices, Eye.fair(), Eye.fair()).must_hear, ((),))

    def test_a_safe_lot_with_a_greater_one_that_is_not(self):
        # With nothing heard she knows both; with the strike alone she takes the one for the other.
        things = (("strike", "bell"), ("withdraw", 0))
        coast = Coast((("anna", "w.."), ("bell", "w..")))
        ships = Ships(Notices(coast, things), Eye.fair(), Eye.fair())
        self.assertIsNone(ships.misled_by(()))
        self.assertEqual(ships.misled_by((0,)), ("bell", "", "anna"))
        self.assertIsNone(ships.misled_by((1,)))
        self.assertEqual(ships.must_hear, ((1,),))
        self.assertEqual(ships.digests, ((),))

    def test_digests(self):
        # In whatever order: a light that was struck and set again stands at another place.
        things = (("strike", "anna"), ("set", "anna", "w.."), ("set", "bell", "g"), ("set", "bell", "g"), ("withdraw", 2))
        ships = Ships(Notices(OLD, things), Eye.fair(), Eye.fair())
        self.assertEqual(ships.digests, ((2,), (3,)))
        # Rounds must be equal strings.
        same = Ships(Notices(OLD, (("set", "anna", "w..w.."),)), Eye.fair(), Eye.fair())
        self.assertEqual(same.digests, ((0,),))
        self.assertEqual(same.must_hear, ((),))
        # By their numbers of notices, then as tuples.
        things = (("set", "a", "w"), ("strike", "anna"), ("set", "b", "g"), ("set", "a", "w"), ("set", "b", "g"))
        digests = Ships(Notices(OLD, things), Eye.fair(), Eye.fair()).digests
        self.assertEqual(digests, ((0, 1, 2), (0, 1, 4), (1, 2, 3), (1, 3, 4)))

    def test_against_the_words(self):
        found, greater = set(), 0
        for seed in range(150):
            things = some_notices(seed, seed % 6, most=2)
            coast = Coast((("a", "w."), ("b", "wg"), ("c", "r"))[:seed % 4])
            supposed = (Eye.fair(), eye_of((("lose", 1),)), some_eye(seed, 2))[seed % 3]
            eye = (Eye.fair(), eye_of((("lose", 1),)))[seed % 2]
            told, must, digests = told_ships(coast, things, supposed, eye)
            ships = Ships(Notices(coast, things), supposed, eye)
            self.assertEqual({lot: ships.misled_by(lot) for lot in told}, told)
            self.assertEqual((ships.must_hear, ships.digests), (must, digests))
            found.add((len(must), len(digests)))
            greater = greater + any(told[lot] is None and told[other] for lot in told for other in told
                                    if set(lot) < set(other))
        self.assertGreater(len(found), 4)
        self.assertGreater(greater, 5)

    def test_bad_lots(self):
        ships = Ships(Notices(OLD, (("strike", "anna"),)), Eye.fair(), Eye.fair())
        for odd in [thing for thing in ODD if thing not in ((), (0,), [])] + [(1,), (-1,), (0, 0), (True,), (False,), "0",
                                                                               (None,), {0: 1}, (0.0,), 1]:
            told = error_of(ships.misled_by, odd)
            self.assertEqual(told[0], "BadLot")
            self.assertIs(told[1], odd)


class TestTooMany(unittest.TestCase):
    def test_six_notices_and_seven(self):
        six = (("strike", "x"),) * 6
        ships = Ships(Notices(OLD, six), Eye.fair(), Eye.fair())
        self.assertEqual((ships.must_hear, ships.digests), (((),), ((),)))
        self.assertIsNone(ships.misled_by(tuple(range(6))))
        self.assertEqual(error_of(Ships, Notices(OLD, six + six[:1]), Eye.fair(), Eye.fair()), ("TooMany", "notice"))
        # It goes ahead of the lights of the true coast.
        nine = Notices(Coast([(name, "w") for name in "abcdefgh"]), (("set", "i", "w"),) * 7)
        self.assertEqual(error_of(Ships, nine, Eye.fair(), Eye.fair()), ("TooMany", "notice"))

    def test_lights(self):
        eight = Coast([(name, "w") for name in "abcdefgh"])
        # Of the true coast, and of a chart that is not the true one.
        self.assertEqual(error_of(Ships, Notices(eight, (("set", "i", "w"),)), Eye.fair(), Eye.fair()), ("TooMany", "light"))
        notices = Notices(eight, (("set", "i", "w"), ("strike", "a")))
        self.assertEqual(len(notices.true_coast), 8)
        self.assertEqual(error_of(Ships, notices, Eye.fair(), Eye.fair()), ("TooMany", "light"))
        # The true coast goes ahead of the states of the first lot's chart.
        large = Coast([(name, "w" * 24) for name in "abcdefgh"])
        self.assertEqual(error_of(large.as_world), ("TooMany", "state"))
        self.assertEqual(error_of(Ships, Notices(large, (("set", "i", "w"),)), Eye.fair(), Eye.fair()), ("TooMany", "light"))
        # But the chart of the first lot goes ahead of that of the second one.
        notices = Notices(large, (("set", "i", "w"), ("strike", "a")))
        self.assertEqual(error_of(Ships, notices, Eye.fair(), Eye.fair()), ("TooMany", "state"))

    def test_states(self):
        four = Coast([(name, "w" * 24) for name in "abcd"])
        notices = Notices(four, (("set", "e", "g"), ("strike", "a")))
        self.assertEqual(len(notices.true_coast.as_world()), 73)
        self.assertEqual(error_of(Ships, notices, Eye.fair(), Eye.fair()), ("TooMany", "state"))
        # The world of a chart is made even where the true coast has no light.
        five = Coast([(name, "w" * 24) for name in "abcde"])
        gone = Notices(five, tuple(("strike", name) for name in "abcde"))
        self.assertEqual(error_of(Ships, gone, Eye.fair(), Eye.fair()), ("TooMany", "state"))
        less = Notices(four, tuple(("strike", name) for name in "abcd"))
        self.assertEqual(Ships(less, Eye.fair(), Eye.fair()).must_hear, ((),))

    def test_nights(self):
        # 24 states of the light and 30 of the eye, with several knowledges for each.
        coast, heavy = Coast((("a", "w" * 24), ("b", "g"))), heavy_eye()
        self.assertEqual(error_of(Ships, Notices(coast, ()), heavy, heavy), ("TooMany", "night"))
        few = Coast((("a", "w"), ("b", "g")))
        self.assertEqual(Ships(Notices(few, ()), heavy, heavy).must_hear, ((),))
        # Behind the first light by which she is misled the others are not asked.
        lights = (("a", "g"), ("b", "w" + "." * 23))
        ships = Ships(Notices(Coast(lights), ()), Eye.fair(), heavy)
        self.assertEqual((ships.misled_by(()), ships.must_hear), (("a", ".", "b"), ()))
        self.assertEqual(error_of(Ships, Notices(Coast(lights[::-1]), ()), Eye.fair(), heavy), ("TooMany", "night"))

    def test_where_it_is_met_first(self):
        # The lot () has a chart with too many states; the lot (0,) one with too many nights.
        heavy = heavy_eye()
        five = Coast([(name, "w" * 24) for name in "abcde"])
        self.assertEqual(error_of(Ships, Notices(five, (("strike", "e"),)), heavy, heavy), ("TooMany", "state"))
        four = Coast([(name, "w" * 24) for name in "abcd"])
        self.assertEqual(error_of(Ships, Notices(four, (("set", "e", "w"),)), heavy, heavy), ("TooMany", "night"))
        self.assertEqual(error_of(Ships, Notices(four, (("set", "e", "w"),)), Eye.fair(), Eye.fair()), ("TooMany", "state"))

    def test_all_lots_are_gone_through(self):
        # Of 64 lots the one whose chart is too large is found, wherever it is.
        four = Coast([(name, "w" * 24) for name in "abcd"])
        for at in range(4):
            things = [("strike", "a")] * 4
            things[at] = ("set", "e", "w")
            late = things + [("withdraw", at)]
            self.assertEqual(error_of(Ships, Notices(four, late), Eye.fair(), Eye.fair()), ("TooMany", "state"))


if __name__ == "__main__":
    unittest.main()
