"""Point 18: the outlook of a mind."""

import unittest

from falseglim.eyes import Eye
from falseglim.makers import either, marked, ring
from falseglim.minds import Mind
from falseglim.outlooks import Outlook
from falseglim.weathers import eye_of
from falseglim.worlds import World
from tests.helpers import ODD, SIGNS, error_of, knowledge_step, least_ways, listed, some_eye, some_world, sure_of


def told_knowledges(mind):
    """All knowledges but the empty one, in order, with their least looks."""
    def follow(knowledge):
        return [(sign, later) for sign in SIGNS for later in [knowledge_step(mind, knowledge, sign)] if later]

    return least_ways([tuple((state, 0) for state in mind.world.begins)], follow)


def chain(many):
    """A mind that comes to know where it is in a chain of so many states, one behind the other."""
    return Mind(World("w" * many, [(state + 1,) for state in range(many - 1)] + [(many - 1,)], (0,), ("a",) * many),
                Eye.fair())


class TestOutlook(unittest.TestCase):
    def setUp(self):
        self.mind = Mind(either(ring("w..", "a"), ring("w...", "b")), Eye.fair())
        self.outlook = Outlook(self.mind)

    def test_knowledges_in_order(self):
        knowledges = list(self.outlook)
        self.assertIs(self.outlook.mind, self.mind)
        self.assertEqual(len(self.outlook), len(knowledges))
        self.assertEqual(knowledges[0], self.mind.opening)
        self.assertEqual([self.outlook[knowledge] for knowledge in knowledges[:6]], ["", ".", "w", "..", "w.", "..."])
        self.assertNotIn((), knowledges)
        self.assertEqual(knowledges, list(told_knowledges(self.mind)))
        for knowledge in knowledges:
            self.assertEqual(self.mind(self.outlook[knowledge]), knowledge)

    def test_against_a_second_reckoning(self):
        most = 0
        for seed in range(60):
            mind = Mind(some_world(seed, 2 + seed % 4), some_eye(seed, 1 + seed % 3))
            told = told_knowledges(mind)
            outlook = Outlook(mind)
            most = max(most, len(told))
            self.assertEqual(list(outlook), list(told))
            self.assertEqual([outlook[knowledge] for knowledge in outlook], list(told.values()))
            looks = {}
            for knowledge, look in told.items():
                looks.setdefault(sure_of(mind, knowledge), look)
            looks.pop(None, None)
            self.assertEqual(outlook.sure_marks, tuple(sorted(looks)))
            for mark in set(mind.world.marks) - {""}:
                self.assertEqual(outlook.sure_look(mark), looks.get(mark))
        self.assertGreater(most, 12)

    def test_four_hundred_knowledges(self):
        def outlook_of(many):
            # The supposed eye counts the beats to 20, the world to 20 or 21 behind some others.
            eye = Eye([(state, sign, sign, (state + 1) % 20) for state in range(20) for sign in SIGNS])
            states = 21 + many
            goes = [(state + 1,) for state in range(states - 1)] + [(states - 21,)]
            return Outlook(Mind(World("w" * states, goes, (0,), ("a",) * states), eye))

        self.assertEqual(len(Outlook(chain(96))), 96)
        # A ring of 21 states and a counting eye of 20: 420 standings, one for each knowledge.
        self.assertEqual(error_of(outlook_of, 0), ("TooMany", "knowledge"))

        def exactly(ahead):
            eye = Eye([(state, sign, sign, state + 1 if state < 24 else 5) for state in range(25) for sign in SIGNS])
            states = 19 + ahead
            goes = [(state + 1,) for state in range(states - 1)] + [(ahead,)]
            return Outlook(Mind(World("w" * states, goes, (0,), ("a",) * states), eye))

        # Behind some beats the world goes round in 19 states, the eye in 20: 380 knowledges, and those ahead.
        self.assertEqual(len(exactly(5)), 385)
        self.assertEqual(len(exactly(20)), 400)
        self.assertEqual(error_of(exactly, 21), ("TooMany", "knowledge"))

    def test_in_and_the_least_look(self):
        for knowledge in self.outlook:
            self.assertIn(knowledge, self.outlook)
            self.assertIn(listed(knowledge), self.outlook)
            self.assertEqual(self.outlook[listed(knowledge)], self.outlook[knowledge])
        known = self.mind("w")
        odd_things = ODD + ((), [], known[::-1], known + known[-1:], ((0, 1),), ((True, 0),), ((0, 0), (1, 0), (2, 1)),
                            ((95, 0),), {known: 1}, "w", (known,), ((1, 0, 0),), ((1.0, 0),))
        for odd in odd_things:
            self.assertIs(odd in self.outlook, False)
            told = error_of(lambda: self.outlook[odd])
            self.assertEqual(told[0], "NoKnowledge")
            self.assertIs(told[1], odd)

    def test_sure_look(self):
        self.assertEqual(self.outlook.sure_look("a"), "w..w")
        self.assertEqual(self.outlook.sure_look("b"), "...")
        self.assertEqual(self.outlook.sure_marks, ("a", "b"))
        # Whatever is seen through this eye, both are possible; but the mark of a state never come to is no stranger.
        both = Outlook(Mind(World("wgr", [(0,), (1,), (2,)], (0, 1), ("a", "b", "c")), Eye.through("....")))
        self.assertEqual([both.sure_look(mark) for mark in "abc"], [None, None, None])
        self.assertEqual(both.sure_marks, ())
        sure = Outlook(Mind(ring("w.", "a"), Eye.fair()))
        self.assertEqual((sure.sure_look("a"), sure.sure_marks), ("", ("a",)))

    def test_unknown_marks(self):
        outlook = Outlook(Mind(either(ring("w", "a"), marked(ring("g", "b"), "")), Eye.fair()))
        self.assertEqual(outlook.sure_marks, ("a",))
        for odd in ODD + ("b", "c", "A", "aa", ("a",), b"a", "a "):
            told = error_of(outlook.sure_look, odd)
            self.assertEqual(told[0], "Unknown")
            self.assertIs(told[1], odd)

    def test_weather(self):
        mind = Mind(either(ring("w.", "a"), ring("ww", "b")), eye_of((("lose", 1),)))
        self.assertEqual(Outlook(mind).sure_look("b"), "ww")
        self.assertEqual(Outlook(mind).sure_look("a"), "..")


if __name__ == "__main__":
    unittest.main()
