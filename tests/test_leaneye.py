"""Point 14: classes of states, and the lean eye."""

import random
import unittest

from falseglim.eyes import Eye
from falseglim.leaneye import classes, lean_eye
from falseglim.weathers import eye_of
from falseglim.within import let_the_same
from tests.helpers import SIGNS, some_eye


def told_apart(eye):
    """All pairs of states that can be told apart, by the words of the document."""
    found = set()
    while True:
        more = set()
        for first in eye.states:
            for second in eye.states:
                for shown in SIGNS:
                    for seen in SIGNS:
                        here = [entry[3] for entry in eye.entries if entry[:3] == (first, shown, seen)]
                        there = [entry[3] for entry in eye.entries if entry[:3] == (second, shown, seen)]
                        if any(all((one, other) in found for other in there) for one in here):
                            more |= {(first, second), (second, first)}
        if more <= found:
            return found
        found |= more


def come_to(eye):
    found = {0}
    while True:
        more = {entry[3] for entry in eye.entries if entry[0] in found}
        if more <= found:
            return sorted(found)
        found |= more


def same_for_all(states, sees=None):
    """Entries of some states which see each sign as it is, and go on to the first of them."""
    return [(state, sign, sees or sign, states[0]) for state in states for sign in SIGNS]


def doubled(eye, seed):
    """An eye with each state twice; both lead to one or both of the states that stand for a next one."""
    chance = random.Random(seed)
    return Eye(sorted({(state + 3 * here, shown, seen, later + 3 * there)
                       for state, shown, seen, later in eye.entries for here in range(2)
                       for there in chance.choice(((0,), (1,), (0, 1)))}))


class TestClasses(unittest.TestCase):
    def test_one_state(self):
        self.assertEqual(classes(Eye.fair()), ((0,),))
        self.assertEqual(lean_eye(Eye.fair()), Eye.fair())

    def test_states_that_are_alike(self):
        eye = Eye([(0, sign, sign, 1) for sign in SIGNS] + [(1, sign, sign, 7) for sign in SIGNS]
                  + [(7, sign, sign, 0) for sign in SIGNS])
        self.assertEqual(classes(eye), ((0, 1, 7),))
        self.assertEqual(lean_eye(eye), Eye.fair())

    def test_unlike_numbers_of_entries(self):
        # The states 1 and 2 have one entry for white, the state 0 has two of them, to states that are alike.
        eye = Eye(same_for_all([0, 1, 2]) + [(0, "w", "w", 1), (0, "w", "w", 2)])
        self.assertEqual(classes(eye), ((0, 1, 2),))
        self.assertEqual(lean_eye(eye), Eye.fair())
        # With an entry more to a state that sees otherwise it can be told apart.
        eye = Eye(same_for_all([0, 1]) + [(0, "w", "w", 1), (0, "w", "w", 2)] + [(2, sign, ".", 2) for sign in SIGNS])
        self.assertEqual(classes(eye), ((0,), (1,), (2,)))

    def test_told_apart_by_what_one_has_and_the_other_has_not(self):
        eye = Eye([(0, sign, sign, 1) for sign in SIGNS] + [(1, sign, sign, 0) for sign in SIGNS] + [(1, "w", ".", 0)])
        self.assertEqual(classes(eye), ((0,), (1,)))

    def test_told_apart_many_beats_later(self):
        many = 30
        eye = Eye([(state, sign, sign, min(state + 1, many - 1)) for state in range(many) for sign in SIGNS])
        self.assertEqual(classes(eye), (tuple(range(many)),))
        eye = Eye(eye.entries + ((many - 1, "w", ".", many - 1),))
        self.assertEqual(classes(eye), tuple((state,) for state in range(many)))

    def test_only_what_is_come_to(self):
        eye = Eye(same_for_all([0]) + [(3, sign, sign, 0) for sign in SIGNS] + [(4, sign, ".", 3) for sign in SIGNS])
        self.assertEqual(eye.states, (0, 3, 4))
        self.assertEqual(classes(eye), ((0,),))
        self.assertEqual(lean_eye(eye), Eye.fair())

    def test_order_by_least_states(self):
        eye = Eye([(0, sign, sign, 5) for sign in SIGNS] + [(5, sign, ".", 2) for sign in SIGNS]
                  + [(2, sign, sign, 9) for sign in SIGNS] + [(9, sign, ".", 0) for sign in SIGNS])
        self.assertEqual(classes(eye), ((0, 2), (5, 9)))
        self.assertEqual(lean_eye(eye), Eye([(0, sign, sign, 1) for sign in SIGNS] + [(1, sign, ".", 0) for sign in SIGNS]))

    def test_weathers(self):
        self.assertEqual(len(classes(eye_of((("lose", 9),)))), 10)
        self.assertEqual(classes(eye_of((("take", "w", "r"), ("take", "w", "r")))), ((0,),))
        # Behind seven beats a miss does not matter any more; and what has been lost twice is lost.
        self.assertEqual(classes(eye_of((("miss", 1, 2),))), ((0,), (1,)))
        self.assertEqual(len(classes(eye_of((("lose", 1), ("lose", 1))))), 3)

    def test_against_the_words(self):
        merged = 0
        for seed in range(60):
            eye = some_eye(seed, 3, more=seed % 4)
            if seed % 2:
                eye = doubled(eye, seed)
            apart = told_apart(eye)
            left, told = come_to(eye), []
            while left:
                told.append(tuple(state for state in left if (left[0], state) not in apart))
                left = [state for state in left if state not in told[-1]]
            self.assertEqual(classes(eye), tuple(told))
            merged = merged + (len(told) < len(come_to(eye)))
            numbers = {state: number for number, states in enumerate(told) for state in states}
            self.assertEqual(lean_eye(eye), Eye(sorted({(numbers[a], x, y, numbers[b]) for a, x, y, b in eye.entries
                                                        if a in numbers})))
            self.assertIs(let_the_same(eye, lean_eye(eye)), True)
            self.assertEqual(lean_eye(lean_eye(eye)), lean_eye(eye))
        self.assertGreater(merged, 5)


if __name__ == "__main__":
    unittest.main()
