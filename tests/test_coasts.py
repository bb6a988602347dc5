"""Point 42: coasts."""

import random
import unittest

from falseglim.coasts import Coast
from falseglim.makers import either, ring
from falseglim.signs import SIGNS
from falseglim.worlds import World
from tests.helpers import ODD, error_of, listed

LIGHTS = (("anna", "w.."), ("bell", "w...g"), ("0", "g"))
NO_TUPLES = tuple(odd for odd in ODD if not isinstance(odd, (tuple, list)))
NO_NAMES = (None, True, False, 0, 1, "", "Anna", "a b", "-", "abcdefghi", ("anna",), ["anna"], b"anna", {})
NO_ROUNDS = (None, True, 0, "", "x", "wx", "w" * 25, ("w",), ["w"], b"w", "2w", {})


def some_lights(seed, many=None, most=4):
    chance = random.Random(seed)
    many = chance.randint(0, 8) if many is None else many
    names = chance.sample(["a", "b", "c", "anna", "bell", "0", "z9", "x", "cape", "dd"], many)
    return tuple((name, "".join(chance.choice(SIGNS) for _ in range(chance.randint(1, most)))) for name in names)


class TestCoast(unittest.TestCase):
    def test_attributes(self):
        for lights in (LIGHTS, listed(LIGHTS), [list(light) for light in LIGHTS]):
            coast = Coast(lights)
            self.assertEqual(coast.lights, LIGHTS)
            self.assertIsInstance(coast.lights, tuple)
            self.assertIsInstance(coast.lights[0], tuple)
        self.assertEqual(Coast(()).lights, ())
        self.assertEqual(Coast([]).lights, ())

    def test_lists_are_not_kept(self):
        lights = listed(LIGHTS)
        coast = Coast(lights)
        lights[0][1] = "g"
        lights.pop()
        self.assertEqual(coast, Coast(LIGHTS))

    def test_as_a_container(self):
        coast = Coast(LIGHTS)
        self.assertEqual((len(coast), tuple(coast)), (3, LIGHTS))
        self.assertEqual((len(Coast(())), tuple(Coast(()))), (0, ()))
        for name, row in LIGHTS:
            self.assertIs(name in coast, True)
            self.assertEqual(coast[name], row)
        for odd in ODD + ("ann", "anna ", ("anna", "w.."), "w..", ["anna"], {"anna": 1}, "ANNA", 1):
            self.assertIs(odd in coast, False)
            told = error_of(lambda: coast[odd])
            self.assertEqual(told[0], "Unknown")
            self.assertIs(told[1], odd)
        self.assertEqual(error_of(lambda: Coast(())["anna"]), ("Unknown", "anna"))

    def test_equality(self):
        coast = Coast(LIGHTS)
        self.assertIs(coast == Coast(listed(LIGHTS)), True)
        for other in (Coast(LIGHTS[::-1]), Coast(LIGHTS[:2]), Coast(()), Coast(LIGHTS[:2] + (("0", "gg"),)),
                      Coast(LIGHTS[:2] + (("1", "g"),)), LIGHTS, None, 3, "anna"):
            self.assertIs(coast == other, False)
            self.assertIs(coast != other, True)

    def test_no_light_and_eight_lights(self):
        eight = tuple((name, "w.") for name in "abcdefgh")
        self.assertEqual(Coast(eight).lights, eight)
        self.assertEqual(error_of(Coast, eight + (("i", "w."),)), ("BadLight", -1))
        self.assertEqual(error_of(Coast, eight + (None,)), ("BadLight", -1))
        self.assertEqual(len(Coast(eight).as_world()), 16)

    def test_as_world(self):
        world = Coast(LIGHTS).as_world()
        self.assertIsInstance(world, World)
        self.assertEqual(world, either(ring("w..", "anna"), ring("w...g", "bell"), ring("g", "0")))
        self.assertEqual(Coast(LIGHTS[2:]).as_world(), ring("g", "0"))
        self.assertEqual(error_of(Coast(()).as_world), ("Unlit",))
        for seed in range(40):
            lights = some_lights(seed, 1 + seed % 8)
            self.assertEqual(Coast(lights).as_world(), either(*[ring(row, name) for name, row in lights]))

    def test_ninety_six_states(self):
        four = tuple((name, "w" + "." * 23) for name in "abcd")
        self.assertEqual(len(Coast(four).as_world()), 96)
        self.assertEqual(error_of(Coast(four + (("e", "w"),)).as_world), ("TooMany", "state"))
        self.assertEqual(error_of(Coast(tuple((name, "g" * 13) for name in "abcdefgh")).as_world), ("TooMany", "state"))

    def test_bad_lights(self):
        for odd in NO_TUPLES + ("anna", {"anna": "w"}, Coast(LIGHTS)):
            self.assertEqual(error_of(Coast, odd), ("BadLight", -1))
        for odd in ODD + ("anna", ("anna",), ("anna", "w", "g"), {"anna": "w"}, "aw", ("anna", "w", None)):
            self.assertEqual(error_of(Coast, (odd,)), ("BadLight", 0))
            self.assertEqual(error_of(Coast, LIGHTS + (odd,)), ("BadLight", 3))
        for odd in NO_NAMES:
            self.assertEqual(error_of(Coast, (("x", "w"), (odd, "w"), None)), ("BadLight", 1))
        for odd in NO_ROUNDS:
            self.assertEqual(error_of(Coast, (("x", "w"), ("y", odd), None)), ("BadLight", 1))
        # The name of an earlier one.
        self.assertEqual(error_of(Coast, LIGHTS + (("bell", "w"),)), ("BadLight", 3))
        self.assertEqual(error_of(Coast, (("a", "w"), ("a", "w"), ("a", "w"))), ("BadLight", 1))
        self.assertEqual(error_of(Coast, (("a", "w"), ["a", "g"])), ("BadLight", 1))


class TestOfTexts(unittest.TestCase):
    def test_texts(self):
        coast = Coast.of_texts(("anna", "w2."), ["bell", "w@4&..g."], ("0", "g"))
        self.assertIsInstance(coast, Coast)
        self.assertEqual(coast.lights, (("anna", "w.."), ("bell", "w.g."), ("0", "g")))
        self.assertEqual(Coast.of_texts(), Coast(()))
        self.assertEqual(Coast.of_texts(("a", "24w"))["a"], "w" * 24)

    def test_the_first_text_that_is_refused(self):
        self.assertEqual(error_of(Coast.of_texts, ("a", "w"), ("b", "w2"), ("c", "x")), ("BadText", 2))
        self.assertEqual(error_of(Coast.of_texts, ("a", "w"), ("b", ""), ("c", "25w")), ("BadText", 0))
        self.assertEqual(error_of(Coast.of_texts, ("a", "20w5."), ("b", "x")), ("TooLong", 25))
        for odd in (None, 0, True, ("w",), ["w"], b"w", {}):
            self.assertEqual(error_of(Coast.of_texts, ("a", odd)), ("BadText", -1))

    def test_texts_go_ahead_of_lights(self):
        self.assertEqual(error_of(Coast.of_texts, ("", "w"), ("a", "w"), ("a", "x")), ("BadText", 0))
        self.assertEqual(error_of(Coast.of_texts, ("", "w"), ("a", "w"), ("a", "25w")), ("BadText", 0))
        self.assertEqual(error_of(Coast.of_texts, ("", "w"), ("a", "12(2w)w")), ("TooLong", 25))
        self.assertEqual(error_of(Coast.of_texts, ("a", "w"), ("", "g")), ("BadLight", 1))
        self.assertEqual(error_of(Coast.of_texts, ("a", "w"), ("b", "g"), ("a", "g")), ("BadLight", 2))
        nine = [(name, "w") for name in "abcdefghi"]
        self.assertEqual(error_of(Coast.of_texts, *nine), ("BadLight", -1))
        self.assertEqual(error_of(Coast.of_texts, *nine[:8], ("i", "?")), ("BadText", 0))
        self.assertEqual(len(Coast.of_texts(*nine[:8])), 8)


if __name__ == "__main__":
    unittest.main()
