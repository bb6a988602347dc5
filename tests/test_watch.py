"""Point 29: a watch, and what is done ahead of it."""

import random
import unittest

from falseglim.errors import BadRow, BadSign
from falseglim.eyes import Eye
from falseglim.makers import either, ring
from falseglim.minds import Mind
from falseglim.watch import Ahead, Watch, foreseen, rehearsed
from falseglim.weathers import eye_of
from falseglim.worlds import World
from tests.helpers import ODD, SIGNS, error_of, standings_behind, sure_of

NO_SIGNS = [odd for odd in ODD if odd != "g"] + ["", "x", "gr", "W", ("g",), b"g"]
NO_LOOKS = [odd for odd in ODD if not isinstance(odd, str)] + [("w",), ["w"], b"w", "w" * 401]


def marks_of(mind, look):
    return tuple(sorted({mind.world.marks[state] for state, _ in standings_behind(mind.world, mind.eye, look)}))


def told_says(mind, look, patience):
    moments = [sure_of(mind, standings_behind(mind.world, mind.eye, look[:many])) for many in range(len(look) + 1)]
    last = moments[-patience - 1:]
    return last[0] if len(last) == patience + 1 and len(set(last)) == 1 else None


class Case(unittest.TestCase):
    def setUp(self):
        self.mind = Mind(either(ring("w..", "a"), ring("w...", "b"), ring("g", "")), Eye.fair())
        self.watch = Watch(self.mind)

    def check(self, look, watch=None):
        """The watch is one that has seen a look, and nothing else."""
        watch = watch or self.watch
        self.assertEqual(watch.seen, look)
        self.assertEqual(watch.held, self.mind(look))
        for patience in range(len(look) + 3):
            self.assertEqual(watch.says(patience), told_says(self.mind, look, patience))
        self.assertEqual(watch, watch_with(self.mind, look))


def watch_with(mind, look):
    watch = Watch(mind)
    watch.look_anew(look)
    return watch


class TestWatch(Case):
    def test_a_new_watch(self):
        self.assertIs(self.watch.mind, self.mind)
        self.assertEqual(self.watch.seen, "")
        self.assertEqual(self.watch.held, self.mind.opening)
        self.assertIsNone(self.watch.says())
        self.check("")

    def test_beats(self):
        look = ""
        for sign in "w..w..w":
            look = look + sign
            self.assertEqual(self.watch.see(sign), marks_of(self.mind, look))
            self.check(look)
        self.assertEqual(self.watch.says(), "a")
        self.assertEqual(self.watch.see("g"), ())
        self.assertEqual(self.watch.held, ())
        self.assertIsNone(self.watch.says())
        self.check("w..w..wg")

    def test_the_look_set_anew(self):
        self.watch.see("w")
        self.assertEqual(self.watch.look_anew("..."), ("b",))
        self.check("...")
        self.watch.seen = "w..w."
        self.check("w..w.")
        self.assertEqual(self.watch.look_anew(""), ("", "a", "b"))
        self.check("")
        self.assertEqual(self.watch.look_anew("g"), ("",))
        self.assertIsNone(self.watch.says())

    def test_what_is_said(self):
        self.watch.seen = "w..w"
        self.assertEqual([self.watch.says(patience) for patience in (0, 1, 2)], ["a", None, None])
        self.assertEqual(self.watch.says(patience=0), "a")
        self.watch.seen = "w..w.."
        self.assertEqual([self.watch.says(patience) for patience in range(5)], ["a", "a", "a", None, None])
        self.assertIsNone(self.watch.says(10 ** 39))

    def test_with_a_patience_from_the_first_moment_on(self):
        watch = Watch(Mind(World("wg.", [(1,), (2,), (2,)], (0,), ("a", "a", "b")), Eye.fair()))
        self.assertEqual([watch.says(patience) for patience in (0, 1)], ["a", None])
        watch.see("w")
        self.assertEqual([watch.says(patience) for patience in (0, 1, 2)], ["a", "a", None])
        # It is sure of another mark now: the moments are counted anew.
        watch.see("g")
        self.assertEqual([watch.says(patience) for patience in (0, 1)], ["b", None])
        watch.see(".")
        self.assertEqual([watch.says(patience) for patience in (0, 1, 2)], ["b", "b", None])

    def test_against_a_second_reckoning(self):
        for seed in range(20):
            chance = random.Random(seed)
            self.mind = Mind(either(ring("w..", "a"), ring("wg", "b"), ring("w.g", "a")), eye_of((("lose", 2),)))
            self.watch = Watch(self.mind)
            look = ""
            for _ in range(12):
                sign = chance.choice(".wg")
                look = look + sign
                self.assertEqual(self.watch.see(sign), marks_of(self.mind, look))
            self.check(look)

    def test_four_hundred_signs_and_one_more(self):
        for number in range(400):
            self.assertEqual(self.watch.see("w..."[number % 4]), marks_of(self.mind, "w..." * 2)
                             if number > 8 and number % 4 == 3 else self.watch.mind.marks_of(self.watch.held))
        self.assertEqual(len(self.watch.seen), 400)
        self.assertEqual([self.watch.says(patience) for patience in (0, 395, 396, 397, 400)],
                         ["b", "b", "b", None, None])
        self.assertEqual(error_of(self.watch.see, "w"), ("BadRow", -1))
        self.assertEqual(error_of(self.watch.see, "x"), ("BadSign", "x"))
        self.assertEqual(error_of(rehearsed, self.watch, (("see", "w"),)), ("BadRow", -1))
        self.assertEqual(self.watch.seen, "w..." * 100)
        self.watch.look_anew("." * 400)
        self.assertEqual(error_of(self.watch.look_anew, "." * 401), ("BadRow", -1))
        self.assertEqual(self.watch.seen, "." * 400)
        self.assertEqual(foreseen(self.watch, "", ""), ((), ()))
        self.assertEqual(error_of(foreseen, self.watch, "", "w"), ("BadRow", -1))
        self.watch.seen = "w" * 399
        self.assertEqual(self.watch.see("w"), ())
        self.assertEqual(error_of(self.watch.see, "."), ("BadRow", -1))

    def test_wrong_arguments(self):
        self.watch.seen = "w."
        for odd in NO_SIGNS:
            told = error_of(self.watch.see, odd)
            self.assertEqual(told[0], "BadSign")
            self.assertIs(told[1], odd)
        for odd in NO_LOOKS:
            self.assertEqual(error_of(self.watch.look_anew, odd), ("BadRow", -1))
            with self.assertRaises(BadRow) as caught:
                self.watch.seen = odd
            self.assertEqual(caught.exception.number, -1)
        self.assertEqual(error_of(self.watch.look_anew, "w.xx"), ("BadRow", 2))
        with self.assertRaises(BadRow) as caught:
            self.watch.seen = "w..x"
        self.assertEqual(caught.exception.number, 3)
        for odd in [thing for thing in ODD if not (type(thing) is int and thing == 0)] + [-2, 0.0, "0"]:
            told = error_of(self.watch.says, odd)
            self.assertEqual(told[0], "BadPatience")
            self.assertIs(told[1], odd)
        self.check("w.")

    def test_copies(self):
        self.watch.seen = "w..w"
        twin = self.watch.copy()
        self.assertIsNot(twin, self.watch)
        self.assertIs(twin.mind, self.mind)
        self.assertEqual(twin, self.watch)
        self.check("w..w", twin)
        twin.see(".")
        self.assertNotEqual(twin, self.watch)
        self.check("w..w")
        self.check("w..w.", twin)
        self.watch.see(".")
        self.assertEqual(twin, self.watch)

    def test_equal_watches(self):
        other = Mind(either(ring("w..", "a"), ring("w...", "b"), ring("g", "")), Eye.fair())
        self.assertEqual(Watch(other), self.watch)
        self.assertNotEqual(Watch(Mind(other.world, eye_of((("lose", 1),)))), self.watch)
        self.assertNotEqual(watch_with(self.mind, "w"), self.watch)
        self.assertNotEqual(watch_with(self.mind, "."), watch_with(self.mind, ".."))
        for odd in ODD + (self.mind, ""):
            self.assertIs(self.watch == odd, False)


class TestAhead(Case):
    def test_a_block(self):
        self.watch.seen = "w."
        with Ahead(self.watch) as held:
            self.assertIs(held, self.watch)
            held.see(".")
            self.assertEqual(self.watch.see("w"), ("a",))
            self.check("w..w")
        self.check("w.")
        with Ahead(self.watch):
            self.watch.look_anew("...")
            self.assertEqual(self.watch.says(), "b")
        self.check("w.")

    def test_blocks_within_blocks(self):
        self.watch.see("w")
        ahead, other = Ahead(self.watch), Ahead(self.watch)
        with ahead:
            self.watch.see(".")
            with other:
                self.watch.see(".")
                with ahead as held:
                    held.seen = "..."
                    with ahead:
                        self.watch.look_anew("")
                    self.check("...")
                self.check("w..")
                self.watch.see("g")
            self.check("w.")
            with ahead:
                pass
            self.check("w.")
            self.watch.see("w")
        self.check("w")
        # And they can be used again.
        for look in ("w.", "w.."):
            with ahead:
                self.watch.seen = look
                self.check(look)
            self.check("w")

    def test_blocks_left_by_an_error(self):
        self.watch.see("w")
        ahead = Ahead(self.watch)
        error = KeyError("x")
        with self.assertRaises(KeyError) as caught:
            with ahead:
                self.watch.see(".")
                with ahead:
                    self.watch.see(".")
                    raise error
        self.assertIs(caught.exception, error)
        self.check("w")
        with self.assertRaises(BadSign):
            with ahead:
                self.watch.see(".")
                self.watch.see("x")
        self.check("w")
        for word in (1, 2):
            for _ in (1,):
                with ahead:
                    self.watch.see(".")
                    if word == 1:
                        break
            self.check("w")

    def test_two_watches(self):
        other = self.watch.copy()
        with Ahead(self.watch):
            self.watch.see("w")
            other.see(".")
        self.check("")
        self.check(".", other)


class TestRehearsed(Case):
    def test_deeds(self):
        self.assertEqual(rehearsed(self.watch, ()), ())
        told = rehearsed(self.watch, (("see", "w"), ("see", "."), ("anew", "..."), ("see", "w")))
        self.assertEqual(told, tuple(marks_of(self.mind, look) for look in ("w", "w.", "...", "...w")))
        self.check("...w")
        self.assertEqual(rehearsed(self.watch, [["anew", ""], ["see", "g"]]), (("", "a", "b"), ("",)))

    def test_deeds_ahead(self):
        self.watch.see("w")
        deeds = (("see", "."), ("ahead", (("see", "."), ("ahead", (("anew", "..."), ("see", "g"))), ("see", "w"))),
                 ("ahead", ()), ("see", "."))
        told = rehearsed(self.watch, deeds)
        self.assertEqual(told, (marks_of(self.mind, "w."), (
            marks_of(self.mind, "w.."), (("b",), ()), ("a",)), (), marks_of(self.mind, "w..")))
        self.check("w..")
        lists = [["see", "."], ["ahead", [["see", "."], ["ahead", [["anew", "..."]]]]]]
        self.assertEqual(rehearsed(Watch(self.mind), lists)[1][1], (("b",),))

    def test_eight_blocks_within_one_another(self):
        deeds = (("see", "w"),)
        told = (marks_of(self.mind, "w"),)
        for _ in range(8):
            deeds, told = (("ahead", deeds),), (told,)
        self.assertEqual(rehearsed(self.watch, deeds), told)
        self.check("")

    def test_errors_of_deeds(self):
        for wrong, error in ((("see", "x"), ("BadSign", "x")), (("anew", "w.x"), ("BadRow", 2)), (("anew", 7), ("BadRow", -1)),
                             (("see", None), ("BadSign", None))):
            watch = Watch(self.mind)
            # What was done ahead of it stays, but for what was done in a block.
            self.assertEqual(error_of(rehearsed, watch, (("see", "w"), wrong, ("see", "."))), error)
            self.check("w", watch)
            self.assertEqual(error_of(rehearsed, watch, (("see", "."), ("ahead", (("see", "."), wrong)), ("see", "w"))), error)
            self.check("w.", watch)
            self.assertEqual(error_of(rehearsed, watch, (("ahead", (("anew", ""), ("ahead", (("see", "w"), wrong)))),)), error)
            self.check("w.", watch)


class TestForeseen(Case):
    def test_looks(self):
        self.assertEqual(foreseen(self.watch), ())
        self.watch.see("w")
        looks = ("", ".", "..w", "...", "g", "..w..w")
        self.assertEqual(foreseen(self.watch, *looks), tuple(marks_of(self.mind, "w" + look) for look in looks))
        self.check("w")
        for look in SIGNS:
            self.assertEqual(foreseen(self.watch, look), (marks_of(self.mind, "w" + look),))

    def test_wrong_looks(self):
        self.watch.see("w")
        for odd in NO_LOOKS:
            self.assertEqual(error_of(foreseen, self.watch, "w", odd, "x"), ("BadRow", -1))
        self.assertEqual(error_of(foreseen, self.watch, "w", "..x", None), ("BadRow", 2))
        self.check("w")

    def test_looks_that_are_too_long_together(self):
        self.watch.seen = "w..." * 10
        self.assertEqual(foreseen(self.watch, "w..." * 90, ""), (("b",), ("b",)))
        self.assertEqual(error_of(foreseen, self.watch, "w..." * 90 + "w"), ("BadRow", -1))
        # Too long goes ahead of a wrong character; a wrong character in an earlier look goes ahead of both.
        self.assertEqual(error_of(foreseen, self.watch, "x" * 361), ("BadRow", -1))
        self.assertEqual(error_of(foreseen, self.watch, ".x", "." * 361), ("BadRow", 1))
        self.assertEqual(error_of(foreseen, self.watch, "w" * 360 , "w" * 359 + "x"), ("BadRow", 359))
        self.check("w..." * 10)

    def test_all_are_judged_ahead_of_any_going(self):
        gone = []

        class Counting(Watch):
            def see(self, sign):
                gone.append(sign)
                return Watch.see(self, sign)

        watch = Counting(self.mind)
        self.assertEqual(error_of(foreseen, watch, "w..", "x"), ("BadRow", 0))
        self.assertEqual(gone, [])


if __name__ == "__main__":
    unittest.main()
