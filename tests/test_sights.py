"""Point 6: sights and their standings."""

import unittest

from falseglim.eyes import Eye
from falseglim.makers import either, ring
from falseglim.sights import Sight
from falseglim.worlds import World
from tests.helpers import ODD, SIGNS, error_of, rows_to, some_eye, some_world, standings_behind

# What is no pair of a state of a world with the states 0 to 2 and a state of an eye with the states 0 and 4.
NO_STANDINGS = ODD + ((0,), (0, 0, 0), (3, 0), (-1, 0), (0, 1), (0, 5), (0, -1), (True, 0), (0, False), (0.0, 0),
                      ("0", 0), ((0,), 0), (0, (0,)), [3, 0], [0, 0, 0], {0: 0}, (0, 10 ** 39), "00", range(2))


class TestSight(unittest.TestCase):
    def setUp(self):
        # The state 2 of the world is never come to, and the eye comes to 4 only when white is shown.
        self.world = World("w.g", ((0, 1), (0,), (0,)), (0, 1), ("a", "b", ""))
        self.eye = Eye([(0, sign, sign, 0) for sign in SIGNS] + [(0, "w", ".", 4)]
                       + [(4, sign, sign, 0) for sign in SIGNS])
        self.sight = Sight(self.world, self.eye)

    def test_attributes(self):
        self.assertIs(self.sight.world, self.world)
        self.assertIs(self.sight.eye, self.eye)
        self.assertEqual(self.sight.opening, ((0, 0), (1, 0)))

    def test_behind(self):
        self.assertEqual(self.sight.behind((0, 0), "w"), ((0, 0), (1, 0)))
        self.assertEqual(self.sight.behind([0, 0], "."), ((0, 4), (1, 4)))
        self.assertEqual(self.sight.behind((0, 4), "."), ())
        self.assertEqual(self.sight.behind((0, 0), "g"), ())
        # A standing that is not come to is one all the same.
        self.assertEqual(self.sight.behind((2, 4), "g"), ((0, 0),))
        self.assertEqual(self.sight.behind((1, 4), "."), ((0, 0),))

    def test_signs_and_marks(self):
        self.assertEqual(self.sight.signs_of((0, 0)), ".w")
        self.assertEqual(self.sight.signs_of([0, 4]), "w")
        self.assertEqual(self.sight.signs_of((2, 0)), "g")
        self.assertEqual(self.sight.mark_of((0, 4)), "a")
        self.assertEqual(self.sight.mark_of([2, 0]), "")
        every = Eye([(0, shown, seen, later) for shown in SIGNS for seen in SIGNS for later in (0, 1)]
                    + [(1, shown, seen, 0) for shown in SIGNS for seen in SIGNS])
        self.assertEqual(Sight(self.world, every).signs_of((0, 0)), ".grw")

    def test_bad_standings_ahead_of_bad_signs(self):
        for odd in NO_STANDINGS:
            for told in (error_of(self.sight.behind, odd, "x"), error_of(self.sight.signs_of, odd),
                         error_of(self.sight.mark_of, odd)):
                self.assertEqual(told[0], "BadStanding")
                self.assertIs(told[1], odd)
        for odd in (None, "", "x", "gr", 1, True, ("g",)):
            self.assertEqual(error_of(self.sight.behind, (0, 0), odd), ("BadSign", odd))

    def test_standings_that_are_come_to(self):
        self.assertEqual(list(self.sight), [(0, 0), (0, 4), (1, 0), (1, 4)])
        self.assertEqual(len(self.sight), 4)
        self.assertIn((0, 4), self.sight)
        self.assertIn([0, 4], self.sight)
        self.assertNotIn((2, 0), self.sight)
        self.assertNotIn([2, 4], self.sight)
        for odd in NO_STANDINGS:
            self.assertIs(odd in self.sight, False)

    def test_possible_looks(self):
        self.assertIs(self.sight.can_see(""), True)
        self.assertIs(self.sight.can_see("..w"), True)
        self.assertIs(self.sight.can_see("...."), True)
        self.assertIs(self.sight.can_see("g"), False)
        self.assertIs(self.sight.can_see("w" * 400), True)
        for odd in (None, 1, True, ("w",), "w" * 401):
            self.assertEqual(error_of(self.sight.can_see, odd), ("BadRow", -1))
        self.assertEqual(error_of(self.sight.can_see, "wx"), ("BadRow", 1))

    def test_against_the_words(self):
        for seed in range(20):
            world, eye = some_world(seed, 4), some_eye(seed, 3)
            sight = Sight(world, eye)
            found = set()
            for look in rows_to(4):
                led = standings_behind(world, eye, look)
                self.assertIs(sight.can_see(look), bool(led))
                found.update(led)
            self.assertLessEqual(found, set(sight))
            for standing in sight:
                for sign in SIGNS:
                    told = {(later, entry[3]) for entry in eye.entries for later in world.goes[standing[0]]
                            if entry[:3] == (standing[1], world.shows[standing[0]], sign)}
                    self.assertEqual(sight.behind(standing, sign), tuple(sorted(told)))
                    self.assertLessEqual(told, set(sight))
                    self.assertIs(sign in sight.signs_of(standing), bool(told))

    def test_all_that_is_come_to_has_a_look(self):
        for seed in range(8):
            world, eye = some_world(seed, 3), some_eye(seed, 2, more=1)
            found = {standing for look in rows_to(5) for standing in standings_behind(world, eye, look)}
            self.assertEqual(found, set(Sight(world, eye)))

    def test_a_coast(self):
        sight = Sight(either(ring("w..", "a"), ring("g", "b")), Eye.fair())
        self.assertEqual(list(sight), [(0, 0), (1, 0), (2, 0), (3, 0)])
        self.assertIs(sight.can_see(".w..w"), True)
        self.assertIs(sight.can_see(".w.w"), False)
        self.assertIs(sight.can_see("gg"), True)
        self.assertIs(sight.can_see("gw"), False)


if __name__ == "__main__":
    unittest.main()
