"""Point 7: minds and their knowledge."""

import unittest

from falseglim.eyes import Eye
from falseglim.makers import either, marked, ring
from falseglim.minds import Mind
from tests.helpers import ODD, SIGNS, error_of, rows_to, some_eye, some_world, standings_behind

NO_KNOWLEDGES = tuple(odd for odd in ODD if odd not in ((), [])) + (
    ((0, 0), (0, 0)), ((1, 0), (0, 0)), ((0,),), ((0, 0, 0),), ((9, 0),), ((0, 1),), ((-1, 0),), ((True, 0),),
    ((0, False),), (0, 0), ((0, 0), None), ("00",), {(0, 0): 1}, [[0, 0], [0, 0]], ((0.0, 0),), (((0, 0),),),
    ((0, 0), (10 ** 39, 0)), ((0, 0), (2, 0), (1, 0)), ((0, 0), (1, 0), (1, 0)))


class TestMind(unittest.TestCase):
    def setUp(self):
        self.world = either(ring("w..", "a"), ring("w...", "b"), marked(ring("g", ""), ""))
        self.mind = Mind(self.world, Eye.fair())

    def test_attributes(self):
        eye = Eye.fair()
        mind = Mind(self.world, eye)
        self.assertIs(mind.world, self.world)
        self.assertIs(mind.eye, eye)

    def test_equal(self):
        self.assertEqual(self.mind, Mind(either(self.world), Eye.fair()))
        self.assertNotEqual(self.mind, Mind(ring("w", "a"), Eye.fair()))
        self.assertNotEqual(self.mind, Mind(self.world, Eye.through("....")))
        for odd in ODD + (self.world,):
            self.assertIs(self.mind == odd, False)

    def test_knowledge(self):
        self.assertEqual(self.mind.opening, tuple((state, 0) for state in range(8)))
        self.assertEqual(self.mind(""), self.mind.opening)
        self.assertEqual(self.mind("w"), ((1, 0), (4, 0)))
        self.assertEqual(self.mind("g"), ((7, 0),))
        self.assertEqual(self.mind("w..w"), ((1, 0),))
        self.assertEqual(self.mind("..."), ((3, 0),))
        self.assertEqual(self.mind("ww"), ())

    def test_bad_looks(self):
        for odd in (None, 1, True, ("w",), "w" * 401, "x" * 401):
            self.assertEqual(error_of(self.mind, odd), ("BadRow", -1))
        self.assertEqual(error_of(self.mind, "w.x"), ("BadRow", 2))
        self.assertEqual(self.mind("g" * 400), ((7, 0),))

    def test_behind(self):
        self.assertEqual(self.mind.behind(self.mind.opening, "w"), ((1, 0), (4, 0)))
        self.assertEqual(self.mind.behind([[1, 0], (4, 0)], "."), ((2, 0), (5, 0)))
        # A knowledge that no look leads to is one all the same.
        self.assertEqual(self.mind.behind(((0, 0), (7, 0)), "g"), ((7, 0),))
        self.assertEqual(self.mind.behind(((0, 0), (7, 0)), "."), ())

    def test_amiss_for_ever(self):
        for sign in SIGNS:
            self.assertEqual(self.mind.behind((), sign), ())
            self.assertEqual(self.mind.behind([], sign), ())
            self.assertEqual(self.mind("ww" + sign), ())
        self.assertEqual(self.mind.marks_of(()), ())
        self.assertIsNone(self.mind.sure_of(()))

    def test_marks(self):
        self.assertEqual(self.mind.marks_of(self.mind.opening), ("", "a", "b"))
        self.assertEqual(self.mind.marks_of([[3, 0], [4, 0]]), ("b",))
        self.assertEqual(self.mind.marks_of(((7, 0),)), ("",))

    def test_sure(self):
        self.assertEqual(self.mind.sure_of(((0, 0), (2, 0))), "a")
        self.assertEqual(self.mind.sure_of([[3, 0]]), "b")
        self.assertIsNone(self.mind.sure_of(((0, 0), (3, 0))))
        # Nobody is sure of the empty mark, nor beside it.
        self.assertIsNone(self.mind.sure_of(((7, 0),)))
        self.assertIsNone(self.mind.sure_of(((0, 0), (7, 0))))

    def test_bad_knowledges_ahead_of_bad_signs(self):
        for odd in NO_KNOWLEDGES:
            for told in (error_of(self.mind.behind, odd, "x"), error_of(self.mind.marks_of, odd),
                         error_of(self.mind.sure_of, odd)):
                self.assertEqual(told[0], "BadKnowledge")
                self.assertIs(told[1], odd)
        for odd in (None, "", "x", "gr", 1, True, ("g",)):
            self.assertEqual(error_of(self.mind.behind, (), odd), ("BadSign", odd))

    def test_states_of_the_eye(self):
        eye = Eye([(0, sign, sign, 3) for sign in SIGNS] + [(3, sign, ".", 3) for sign in SIGNS])
        mind = Mind(ring("w", "a"), eye)
        self.assertEqual(mind("w."), ((0, 3),))
        self.assertEqual(mind.sure_of(((0, 0), (0, 3))), "a")
        self.assertEqual(error_of(mind.sure_of, ((0, 1),)), ("BadKnowledge", ((0, 1),)))

    def test_against_the_words(self):
        for seed in range(20):
            world, eye = some_world(seed, 5), some_eye(seed, 3)
            mind = Mind(world, eye)
            for look in rows_to(4):
                knowledge = standings_behind(world, eye, look)
                self.assertEqual(mind(look), knowledge)
                marks = sorted({world.marks[state] for state, _ in knowledge})
                self.assertEqual(mind.marks_of(knowledge), tuple(marks))
                self.assertEqual(mind.sure_of(knowledge), marks[0] if len(marks) == 1 and marks[0] else None)
                for sign in SIGNS:
                    self.assertEqual(mind.behind(knowledge, sign), standings_behind(world, eye, look + sign))

    def test_what_is_passed_is_not_changed(self):
        passed = [[0, 0], [4, 0]]
        self.mind.behind(passed, "w")
        self.mind.marks_of(passed)
        self.mind.sure_of(passed)
        self.assertEqual(passed, [[0, 0], [4, 0]])


if __name__ == "__main__":
    unittest.main()
