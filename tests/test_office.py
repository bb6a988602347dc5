"""Point 52: the office."""

import random
import unittest

from falseglim.coasts import Coast
from falseglim.office import Office
from falseglim.orders import Orders
from falseglim.signs import SIGNS
from tests.helpers import ODD, error_of, listed
from tests.lookouts import EXAMPLE, some_orders
from tests.test_coasts import NO_TUPLES

NO_NAMES = (None, True, False, 0, 1, "", "Anna", "a b", "-", "abcdefghi", ("anna",), ["anna"], b"anna", {}, object())
NO_ROUNDS = ((None, -1), ("", -1), ("w" * 25, -1), (("w",), -1), ("wx", 1), ("x", 0), (1, -1), (True, -1))
WEATHERS = (("lose", 1), ("glow",))


def some_office():
    """An office with a thing of each kind."""
    office = Office()
    office.keep_round("slow", "w...")
    office.keep_round("fast", "w.w.")
    office.keep_weather("haze", WEATHERS)
    office.keep_orders("look", EXAMPLE)
    office.keep_coast("west", (("anna", "slow"), ("bell", "fast")))
    return office


def busy_office(seed, many=40):
    """An office in which things were added and struck by chance."""
    chance = random.Random(seed)
    office = Office()
    for _ in range(many):
        name = chance.choice(["a", "b", "c", "d", "e9", "x", "anna", "0"])
        kind = chance.choice(("round", "round", "weather", "orders", "coast", "coast", "strike", "strike"))
        rounds = [one for one in office if office.kind_of(one) == "round"]
        if kind == "round":
            error_of(office.keep_round, name, "".join(chance.choice(SIGNS) for _ in range(chance.randint(1, 24))))
        elif kind == "weather":
            error_of(office.keep_weather, name, tuple(chance.sample((("lose", 3), ("miss", 1, 4), ("take", "g", "w"), (
                "always", "r", "."), ("glow",), ("late",)), chance.randint(0, 6))))
        elif kind == "orders":
            error_of(office.keep_orders, name, some_orders(chance.randint(0, 999)).lines)
        elif kind == "coast":
            lights = chance.sample("abcdefgh", chance.randint(0, 8) if rounds else 0)
            error_of(office.keep_coast, name, tuple((light, chance.choice(rounds)) for light in lights))
        else:
            error_of(office.strike, name)
    return office


class TestOffice(unittest.TestCase):
    def test_an_empty_one(self):
        office = Office()
        self.assertEqual((len(office), list(office), office.deeds), (0, [], 0))
        self.assertEqual(office, Office())
        self.assertIs("anna" in office, False)

    def test_things(self):
        office = some_office()
        self.assertEqual((len(office), list(office), office.deeds), (5, ["slow", "fast", "haze", "look", "west"], 5))
        self.assertEqual((office["slow"], office["fast"]), ("w...", "w.w."))
        self.assertEqual(office["haze"], WEATHERS)
        self.assertIsInstance(office["look"], Orders)
        self.assertEqual(office["look"], Orders(EXAMPLE))
        self.assertIsInstance(office["west"], Coast)
        self.assertEqual(office["west"].lights, (("anna", "w..."), ("bell", "w.w.")))
        self.assertEqual([office.kind_of(name) for name in office], ["round", "round", "weather", "orders", "coast"])
        self.assertIsNone(office.keep_round("more", "w"))
        self.assertIsNone(office.strike("more"))

    def test_lists(self):
        office = Office()
        office.keep_round("r", "w")
        weathers, lines, lights = listed(WEATHERS), listed(EXAMPLE), [["anna", "r"], ("bell", "r")]
        office.keep_weather("w", weathers)
        office.keep_orders("o", lines)
        office.keep_coast("c", lights)
        weathers.pop()
        lines[0][1] = "x"
        lights[0][1] = "x"
        self.assertEqual((office["w"], office["o"].lines), (WEATHERS, EXAMPLE))
        self.assertEqual(office["c"].lights, (("anna", "w"), ("bell", "w")))
        self.assertIsInstance(office["w"], tuple)
        self.assertIsInstance(office["w"][0], tuple)

    def test_small_and_large_things(self):
        office = Office()
        office.keep_weather("none", ())
        office.keep_weather("six", [("late",)] * 6)
        office.keep_orders("skip", (("skip",),))
        office.keep_coast("empty", ())
        office.keep_round("r", "g" * 24)
        office.keep_coast("full", [(name, "r") for name in "abcdefgh"])
        self.assertEqual((office["none"], office["empty"], len(office["full"])), ((), Coast(()), 8))
        self.assertEqual(office.deeds, 6)

    def test_what_is_there(self):
        office = some_office()
        for name in office:
            self.assertIs(name in office, True)
        for odd in ODD + NO_NAMES + ("anna", "bell", "w...", "slo", ("slow",)):
            self.assertIs(odd in office, False)
            for call in (lambda: office[odd], lambda: office.kind_of(odd)):
                told = error_of(call)
                self.assertEqual(told[0], "Unknown")
                self.assertIs(told[1], odd)

    def test_strikes(self):
        office = some_office()
        office.strike("west")
        office.strike("slow")
        self.assertEqual((len(office), list(office), office.deeds), (3, ["fast", "haze", "look"], 7))
        self.assertEqual(error_of(lambda: office["slow"]), ("Unknown", "slow"))
        # A name can be used again, for a thing of another kind; it comes to the end.
        office.keep_weather("fast2", ())
        office.keep_weather("slow", WEATHERS)
        office.strike("fast")
        office.keep_orders("fast", EXAMPLE)
        self.assertEqual(list(office), ["haze", "look", "fast2", "slow", "fast"])
        self.assertEqual((office.kind_of("slow"), office.kind_of("fast"), office.deeds), ("weather", "orders", 11))

    def test_in_use(self):
        office = some_office()
        office.keep_coast("east", (("cape", "slow"),))
        self.assertEqual(error_of(office.strike, "slow"), ("InUse", "west"))
        self.assertEqual(error_of(office.strike, "fast"), ("InUse", "west"))
        # The first one in the order in which they were added, not by their names.
        office.strike("west")
        office.keep_coast("west", (("anna", "slow"), ("bell", "fast")))
        self.assertEqual(error_of(office.strike, "slow"), ("InUse", "east"))
        self.assertEqual(error_of(office.strike, "fast"), ("InUse", "west"))
        # The names of its lights are no rounds of a coast.
        office.keep_round("anna", "g")
        office.strike("anna")
        self.assertIs("anna" in office, False)
        office.strike("east")
        office.strike("west")
        office.strike("slow")
        self.assertEqual(list(office), ["fast", "haze", "look"])

    def test_what_is_returned_belongs_to_the_caller(self):
        office = some_office()
        office["look"].lines = ()
        office["west"].lights = ()
        self.assertEqual((office["look"].lines, len(office["west"])), (EXAMPLE, 2))

    def test_copies(self):
        office = some_office()
        twin = office.copy()
        self.assertIsInstance(twin, Office)
        self.assertEqual(twin, office)
        twin.keep_round("new", "g")
        twin.strike("west")
        self.assertNotEqual(twin, office)
        self.assertEqual((list(office), office.deeds), (["slow", "fast", "haze", "look", "west"], 5))
        self.assertEqual((list(twin), twin.deeds), (["slow", "fast", "haze", "look", "new"], 7))
        office.strike("look")
        self.assertIs("look" in twin, True)

    def test_equality(self):
        office = some_office()
        self.assertIs(office == some_office(), True)
        # The same things by other deeds.
        other = some_office()
        other.keep_round("x", "g")
        other.strike("x")
        self.assertEqual(list(other), list(office))
        self.assertIs(other == office, False)
        self.assertIs(other != office, True)
        first, second = Office(), Office()
        first.keep_round("a", "g")
        second.keep_round("a", "gg")
        self.assertIs(first == second, False)
        second = Office()
        second.keep_round("b", "g")
        self.assertIs(first == second, False)
        first, second = Office(), Office()
        first.keep_weather("a", [["lose", 1]])
        second.keep_weather("a", (("lose", 1),))
        self.assertIs(first == second, True)
        for odd in (None, 0, (), [], "a", {}, object()):
            self.assertIs(Office() == odd, False)
        # An empty coast, empty weathers.
        first, second = Office(), Office()
        first.keep_weather("a", ())
        second.keep_coast("a", ())
        self.assertIs(first == second, False)


class TestErrors(unittest.TestCase):
    def setUp(self):
        self.office = some_office()
        self.twin = self.office.copy()

    def refused(self, error, call, *parts):
        told = error_of(call, *parts)
        self.assertEqual(told, error)
        # A refused deed leaves nothing behind.
        self.assertEqual(self.office, self.twin)
        self.assertEqual((list(self.office), self.office.deeds), (list(self.twin), self.twin.deeds))

    def calls(self):
        return (self.office.keep_round, self.office.keep_weather, self.office.keep_orders, self.office.keep_coast)

    def test_names(self):
        for odd in NO_NAMES:
            for call in self.calls():
                self.refused(("BadName", odd), call, odd, None)
                self.assertIs(error_of(call, odd, None)[1], odd)
            self.refused(("BadName", odd), self.office.strike, odd)
            self.assertIs(error_of(self.office.strike, odd)[1], odd)

    def test_twice(self):
        for name in self.office:
            for call in self.calls():
                self.refused(("Twice", name), call, name, None)

    def test_rounds(self):
        for odd, number in NO_ROUNDS:
            self.refused(("BadRound", number), self.office.keep_round, "new", odd)

    def test_weathers(self):
        for odd in NO_TUPLES + ("glow", {}, (("late",),) * 7):
            self.refused(("BadWeather", -1), self.office.keep_weather, "new", odd)
        for odd in (None, "glow", ("glow", 1), ("lose", 0), ("lose", True), ("miss", 2, 2), ()):
            self.refused(("BadWeather", 1), self.office.keep_weather, "new", (("late",), odd, None))
        # Too many states are no matter here: it is kept as it is.
        self.office.keep_weather("many", (("miss", 2, 8), ("miss", 2, 8), ("lose", 9)))

    def test_orders(self):
        for odd in NO_TUPLES + ("skip", (), [], (("skip",),) * 21, {}):
            self.refused(("BadOrder", -1), self.office.keep_orders, "new", odd)
        for odd in (None, "skip", ("skip", 1), ("go", 3), ("go", True), ("wait", "w", 0), ("name", "")):
            self.refused(("BadOrder", 1), self.office.keep_orders, "new", (("skip",), odd, None))

    def test_coasts(self):
        for odd in NO_TUPLES + ("slow", {}, [("a", "slow")] * 9, [(name, "slow") for name in "abcdefghi"]):
            self.refused(("BadLight", -1), self.office.keep_coast, "new", odd)
        for odd in ODD + ("ab", ("a",), ("a", "slow", "slow"), {"a": "slow"}, ("a", "w.."), ("a", ""), ("", "slow"), ("A", "slow"),
                          (None, "slow"), ("a", None), (("a",), "slow"), ("a", ["slow"]), ("x", "slow"), (1, "slow"), ("a", 1)):
            self.refused(("BadLight", 1), self.office.keep_coast, "new", (("x", "gone"), odd, None))
        # Only then the rounds: the first one that is not kept, or is kept as another thing.
        self.refused(("BadLight", 2), self.office.keep_coast, "new", (("a", "gone"), ("b", "slow"), ("a", "slow")))
        self.refused(("Unknown", "gone"), self.office.keep_coast, "new", (("a", "slow"), ("b", "gone"), ("c", "away")))
        for name in ("haze", "look", "west", "new", "anna"):
            self.refused(("Unknown", name), self.office.keep_coast, "new", (("a", "slow"), ("b", name)))

    def test_strikes(self):
        for name in ("gone", "anna", "slow2"):
            self.refused(("Unknown", name), self.office.strike, name)
        self.refused(("InUse", "west"), self.office.strike, "slow")
        self.office.strike("haze")
        self.assertEqual(error_of(self.office.strike, "haze"), ("Unknown", "haze"))

    def test_thirty_things(self):
        for number in range(25):
            self.office.keep_round("r" + str(number), "w")
        self.assertEqual(len(self.office), 30)
        self.twin = self.office.copy()
        self.refused(("TooMany", "thing"), self.office.keep_round, "new", "w")
        self.refused(("TooMany", "thing"), self.office.keep_weather, "new", ())
        self.refused(("TooMany", "thing"), self.office.keep_orders, "new", EXAMPLE)
        self.refused(("TooMany", "thing"), self.office.keep_coast, "new", (("a", "slow"),))
        # The errors of the name and of the thing go ahead.
        self.refused(("Twice", "r0"), self.office.keep_round, "r0", None)
        self.refused(("BadName", ""), self.office.keep_round, "", None)
        self.refused(("BadRound", -1), self.office.keep_round, "new", None)
        self.refused(("BadWeather", -1), self.office.keep_weather, "new", None)
        self.refused(("BadOrder", -1), self.office.keep_orders, "new", None)
        self.refused(("BadLight", 0), self.office.keep_coast, "new", (None,))
        self.refused(("Unknown", "gone"), self.office.keep_coast, "new", (("a", "gone"),))
        # Deeds are not counted, things are.
        self.office.strike("haze")
        self.office.keep_coast("new", (("a", "slow"),))
        self.assertEqual((len(self.office), self.office.deeds), (30, 32))


if __name__ == "__main__":
    unittest.main()
