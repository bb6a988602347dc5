"""Point 16: weathers that are needless, and neighbours that can change places."""

import itertools
import random
import unittest

from falseglim import leanweathers
from falseglim.errors import TooMany
from falseglim.leanweathers import exchangeable, lean_weathers, needless_weathers
from falseglim.weathers import eye_of
from falseglim.within import let_the_same
from tests.helpers import ODD, error_of

LOSE, GLOW, LATE = ("lose", 1), ("glow",), ("late",)
TAKE, ALWAYS, BACK = ("take", "w", "r"), ("always", "w", "r"), ("always", "r", "w")
FEW = (LOSE, GLOW, LATE, TAKE, ALWAYS, BACK, ("take", "r", "g"), ("miss", 1, 3), ("miss", 1, 2))


def same(first, second):
    return let_the_same(eye_of(first), eye_of(second))


def told_lean(weathers):
    number = 0
    while number < len(weathers):
        others = weathers[:number] + weathers[number + 1:]
        if same(others, weathers):
            weathers = others
        else:
            number = number + 1
    return weathers


class TestNeedless(unittest.TestCase):
    def test_needless_ones(self):
        self.assertEqual(needless_weathers(()), ())
        self.assertEqual(needless_weathers((TAKE,)), ())
        self.assertEqual(needless_weathers((TAKE, TAKE)), (0, 1))
        self.assertEqual(needless_weathers([list(ALWAYS), list(TAKE)]), (1,))
        self.assertEqual(needless_weathers((TAKE, ALWAYS)), (0,))
        # A miss in two beats is seldom one more where one in two beats is let already.
        self.assertEqual(needless_weathers((LOSE, LATE, LOSE)), ())
        self.assertEqual(needless_weathers((ALWAYS, ("always", "w", "g"), LATE)), (1,))

    def test_needless_only_until_another_one_is_left_out(self):
        self.assertEqual(needless_weathers((TAKE, LATE, TAKE)), (0, 2))
        self.assertEqual(lean_weathers((TAKE, LATE, TAKE)), (LATE, TAKE))
        self.assertEqual(needless_weathers(lean_weathers((TAKE, LATE, TAKE))), ())

    def test_lean_ones(self):
        self.assertEqual(lean_weathers([]), ())
        self.assertEqual(lean_weathers([list(TAKE), list(TAKE), list(TAKE)]), (TAKE,))
        self.assertEqual(lean_weathers((LOSE, LOSE)), (LOSE, LOSE))
        # From the first to the last: behind one that stays, the next ones are asked in what is left by then.
        self.assertEqual(lean_weathers((LATE, TAKE, ALWAYS, TAKE, BACK)), told_lean((LATE, TAKE, ALWAYS, TAKE, BACK)))
        self.assertEqual(lean_weathers((TAKE, ALWAYS, ALWAYS)), (ALWAYS,))
        lean = lean_weathers([list(LATE)])
        self.assertEqual(lean, (LATE,))
        self.assertIsInstance(lean[0], tuple)

    def test_against_trying_all(self):
        chance = random.Random(7)
        found = set()
        for _ in range(40):
            weathers = tuple(chance.choice(FEW) for _ in range(chance.randint(1, 3)))
            try:
                needless = tuple(number for number in range(len(weathers))
                                 if same(weathers[:number] + weathers[number + 1:], weathers))
            except TooMany as error:
                self.assertEqual(error_of(needless_weathers, weathers), ("TooMany", error.word))
                continue
            self.assertEqual(needless_weathers(weathers), needless)
            self.assertEqual(lean_weathers(weathers), told_lean(weathers))
            found.add(len(needless))
        self.assertEqual(found, {0, 1, 2, 3} & found)
        self.assertGreater(len(found), 2)


class TestExchangeable(unittest.TestCase):
    def test_neighbours(self):
        self.assertEqual(exchangeable(()), ())
        self.assertEqual(exchangeable((TAKE,)), ())
        self.assertEqual(exchangeable((TAKE, LATE)), (0,))
        self.assertEqual(exchangeable((ALWAYS, BACK)), ())
        self.assertEqual(exchangeable([list(ALWAYS), list(BACK), list(LATE), list(TAKE), list(TAKE)]), (1, 2, 3))
        self.assertEqual(exchangeable((LOSE, GLOW)), ())

    def test_against_trying_all(self):
        count = 0
        for weathers in itertools.permutations((GLOW, TAKE, ALWAYS, LOSE), 3):
            told = tuple(number for number in (0, 1) if same(weathers[:number] + weathers[number:number + 2][::-1]
                                                             + weathers[number + 2:], weathers))
            self.assertEqual(exchangeable(weathers), told)
            count = count + len(told)
        self.assertGreater(count, 2)


class TestErrors(unittest.TestCase):
    CALLS = (needless_weathers, lean_weathers, exchangeable)

    def test_bad_weathers(self):
        for call in self.CALLS:
            for odd in (None, 0, "glow", {}, True, (GLOW,) * 7, [None] * 7):
                self.assertEqual(error_of(call, odd), ("BadWeather", -1))
            for odd in ODD + (("take", "w", "w"), "glow", ("lose", 10)):
                self.assertEqual(error_of(call, (GLOW, odd, odd)), ("BadWeather", 1))
                self.assertEqual(error_of(call, (("lose", 9), ("miss", 2, 8), odd)), ("BadWeather", 2))

    def test_too_many_states(self):
        # The eye of all goes first: of the others none has too many states.
        for call in self.CALLS:
            self.assertEqual(error_of(call, (("lose", 9), ("miss", 1, 4))), ("TooMany", "state"))
        # The eye of all is well, but without the weather at the head there are too many states.
        dimmed = (("always", "w", "."), ("always", "g", "."), ("always", "r", "."), ("lose", 9), ("miss", 1, 4))
        self.assertEqual(len(eye_of(dimmed).states), 1)
        for call in self.CALLS[:2]:
            self.assertEqual(error_of(call, dimmed), ("TooMany", "state"))
        self.assertEqual(exchangeable(dimmed), (0, 1, 2, 3))
        self.assertEqual(len(eye_of((("miss", 1, 8), GLOW)).states), 29)
        self.assertEqual(error_of(exchangeable, (("miss", 1, 8), GLOW)), ("TooMany", "state"))

    def test_too_many_entries(self):
        many = (("miss", 2, 8), TAKE, ("take", "w", "g"), ("take", "r", "g"), ("take", "g", "w"), ("take", "r", "w"))
        for call in self.CALLS:
            self.assertEqual(error_of(call, many), ("TooMany", "entry"))
        few = (("lose", 3), ("always", "r", "."), ("lose", 6))
        self.assertLessEqual(len(eye_of(few)), 240)
        for call in self.CALLS:
            self.assertEqual(error_of(call, few), ("TooMany", "entry"))

    def test_too_many_situations(self):
        for weathers in ((("always", "w", "."), ("miss", 1, 8), ("lose", 2)),
                         (LATE, ("miss", 2, 4), BACK, ("take", "w", "."))):
            for call in self.CALLS:
                self.assertEqual(error_of(call, weathers), ("TooMany", "situation"))

    def test_whichever_is_due_first(self):
        calls = []

        def eye(weathers):
            calls.append(("eye", weathers))
            return eye_of(weathers)

        def let(first, second):
            calls.append(("let", first.entries, second.entries))
            return let_the_same(first, second)

        kept = leanweathers.eye_of, leanweathers.let_the_same
        leanweathers.eye_of, leanweathers.let_the_same = eye, let
        try:
            needless_weathers((TAKE, LATE, BACK))
            self.assertEqual([words[1] for words in calls if words[0] == "eye"],
                             [(TAKE, LATE, BACK), (LATE, BACK), (TAKE, BACK), (TAKE, LATE)])
            self.assertEqual([words[0] for words in calls], ["eye"] + ["eye", "let"] * 3)
            del calls[:]
            exchangeable((TAKE, LATE, BACK))
            self.assertEqual([words[1] for words in calls if words[0] == "eye"],
                             [(TAKE, LATE, BACK), (LATE, TAKE, BACK), (TAKE, BACK, LATE)])
            del calls[:]
            lean_weathers((TAKE, TAKE, LATE))
            self.assertEqual([words[1] for words in calls if words[0] == "eye"],
                             [(TAKE, TAKE, LATE), (TAKE, LATE), (LATE,), (TAKE,)])
        finally:
            leanweathers.eye_of, leanweathers.let_the_same = kept


if __name__ == "__main__":
    unittest.main()
