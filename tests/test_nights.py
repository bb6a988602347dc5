"""Point 22: the pairs of a truth and a mind."""

import unittest

from falseglim.eyes import Eye
from falseglim.makers import by_turns, either, marked, over, ring
from falseglim.minds import Mind
from falseglim.nights import Nights
from falseglim.worlds import World
from tests.helpers import ODD, SIGNS, error_of, rows_of, some_eye, some_world, standings_behind


def told_pairs(mind, world, eye, most):
    """The pairs with looks of at most so many signs, each with its least look, by going through all looks."""
    found = {}
    for many in range(most + 1):
        for look in rows_of(many):
            knowledge = standings_behind(mind.world, mind.eye, look)
            for standing in standings_behind(world, eye, look):
                if (standing, knowledge) not in found:
                    found[(standing, knowledge)] = look
    return found


class TestNights(unittest.TestCase):
    def setUp(self):
        self.mind = Mind(either(ring("w..", "a"), ring("w...", "b")), Eye.fair())
        self.world = ring("w....", "c")
        self.nights = Nights(self.mind, self.world, Eye.fair())

    def test_attributes(self):
        eye = Eye.fair()
        nights = Nights(self.mind, self.world, eye)
        self.assertIs(nights.mind, self.mind)
        self.assertIs(nights.world, self.world)
        self.assertIs(nights.eye, eye)

    def test_pairs_in_order(self):
        pairs = list(self.nights)
        self.assertEqual(len(self.nights), 25)
        self.assertEqual(pairs[:5], [((state, 0), self.mind.opening) for state in range(5)])
        self.assertEqual([self.nights[pair] for pair in pairs[:12]], [""] * 5 + ["."] * 4 + ["w"] + [".."] * 2)
        self.assertEqual(pairs[9], ((1, 0), ((1, 0), (4, 0))))
        self.assertEqual(pairs[-1], ((4, 0), ()))
        self.assertEqual(self.nights[((4, 0), ())], "....w...")

    def test_against_all_looks(self):
        for seed in range(12):
            mind = Mind(some_world(seed, 3, ".gw"), some_eye(seed, 2, more=1))
            world, eye = some_world(seed + 70, 3, ".gw"), some_eye(seed + 70, 2, more=1)
            nights = Nights(mind, world, eye)
            told = told_pairs(mind, world, eye, 5)
            self.assertEqual([pair for pair in nights if len(nights[pair]) <= 5],
                             sorted(told, key=lambda pair: (len(told[pair]), told[pair], pair)))
            for pair in told:
                self.assertEqual(nights[pair], told[pair])

    def test_true_beats(self):
        for seed in range(12):
            mind = Mind(some_world(seed, 3), some_eye(seed, 2))
            world, eye = some_world(seed + 70, 3), some_eye(seed + 70, 2)
            nights = Nights(mind, world, eye)
            for pair in nights:
                (state, place), knowledge = pair
                led = {(entry[2], ((later, entry[3]), mind.behind(knowledge, entry[2]))) for entry in eye.entries
                       if entry[:2] == (place, world.shows[state]) for later in world.goes[state]}
                self.assertEqual(nights.behind(pair), tuple(sorted(led)))
                for _, later in led:
                    self.assertIn(later, nights)

    def test_misled_pairs(self):
        self.assertEqual(self.nights.misled_pairs, tuple(
            pair for pair in self.nights if pair[1] and self.mind.sure_of(pair[1]) == "b"))
        self.assertEqual(self.nights.misled_pairs[0], ((0, 0), ((3, 0),)))
        self.assertEqual(Nights(self.mind, ring("w..", "a"), Eye.fair()).misled_pairs, ())
        for seed in range(12):
            mind = Mind(some_world(seed, 3), some_eye(seed, 2))
            world, eye = some_world(seed + 70, 3), some_eye(seed + 70, 2)
            nights = Nights(mind, world, eye)
            self.assertEqual(nights.misled_pairs, tuple(
                pair for pair in nights
                if mind.sure_of(pair[1]) is not None and mind.sure_of(pair[1]) != world.marks[pair[0][0]]))

    def test_misled_where_the_true_mark_is_empty(self):
        truth = marked(ring("w..", "a"), "")
        nights = Nights(self.mind, truth, Eye.fair())
        self.assertEqual(nights[nights.misled_pairs[0]], "w..w")
        self.assertTrue(all(self.mind.sure_of(pair[1]) == "a" for pair in nights.misled_pairs))

    def test_a_mind_that_is_amiss_or_in_doubt_is_not_misled(self):
        mind = Mind(ring("g", "a"), Eye.fair())
        nights = Nights(mind, ring("w", "b", 0), Eye.fair())
        self.assertEqual(list(nights), [((0, 0), ((0, 0),)), ((0, 0), ())])
        self.assertEqual(nights.misled_pairs, (((0, 0), ((0, 0),)),))
        doubtful = Mind(either(ring("g", "a"), ring("w", "")), Eye.fair())
        self.assertEqual(Nights(doubtful, ring("w", "b", 0), Eye.fair()).misled_pairs, ())

    def test_in(self):
        pair = ((0, 0), ((0, 0), (2, 0), (3, 0), (5, 0), (6, 0)))
        self.assertIn(pair, self.nights)
        self.assertIn([[0, 0], [list(standing) for standing in pair[1]]], self.nights)
        self.assertEqual(self.nights[[[0, 0], [list(standing) for standing in pair[1]]]], ".")
        self.assertEqual(self.nights.behind([[0, 0], pair[1]]), self.nights.behind(pair))
        odd_pairs = ODD + (pair[:1], pair + ((),), ((0, 0), ((0, 0),)), ((True, 0), pair[1]), ((0, 0), (0, 0)),
                           ((0, 0), pair[1][::-1]), ((9, 0), pair[1]), {pair: 1}, ((0, 0), {}), ((0, 0), None),
                           (((0, 0),), pair[1]), ((0, 0), pair[1] + pair[1][-1:]))
        for odd in odd_pairs:
            self.assertIs(odd in self.nights, False)
            for told in (error_of(lambda: self.nights[odd]), error_of(self.nights.behind, odd)):
                self.assertEqual(told[0], "NoPair")
                self.assertIs(told[1], odd)

    def test_fifteen_hundred_pairs(self):
        # Each beat leads the mind to a new knowledge, and the truth to any of its states.
        def nights_of(length, others):
            chain = World("w" * length, [(state + 1,) for state in range(length - 1)] + [(length - 1,)], (0,),
                          ("a",) * length)
            free = World("w" * others, [tuple(range(others))] * others, tuple(range(others)), ("b",) * others)
            return Nights(Mind(chain, Eye.fair()), free, Eye.fair())

        self.assertEqual(len(nights_of(75, 20)), 1500)
        self.assertEqual(error_of(nights_of, 79, 19), ("TooMany", "night"))
        self.assertEqual(error_of(nights_of, 96, 96), ("TooMany", "night"))

    def test_one_pair_more(self):
        # 1,501 is 19 times 79: a chain of 79 knowledges and 19 true states.
        chain = World("w" * 79, [(state + 1,) for state in range(78)] + [(78,)], (0,), ("a",) * 79)
        free = World("w" * 19, [tuple(range(19))] * 19, tuple(range(19)), ("b",) * 19)
        self.assertEqual(error_of(Nights, Mind(chain, Eye.fair()), free, Eye.fair()), ("TooMany", "night"))
        less = World("w" * 19, [tuple(range(18)) for _ in range(19)], tuple(range(18)), ("b",) * 19)
        self.assertEqual(len(Nights(Mind(chain, Eye.fair()), less, Eye.fair())), 18 * 79)

    def test_great_knowledges(self):
        # All states of the supposed world and of a large eye are held possible at once.
        free = World("w" * 96, [tuple(range(96))] * 96, tuple(range(96)), ("a",) * 96)
        eye = Eye([(state, sign, sign, later) for state in range(30) for sign in SIGNS
                   for later in {(state + 1) % 30, 29 - state}])
        mind = Mind(free, eye)
        nights = Nights(mind, ring("w" + "." * 23, "b"), Eye.fair())
        self.assertEqual(nights[((1, 0), mind("w"))], "w")
        self.assertIn(((2, 0), ()), nights)

    def test_worlds_by_turns(self):
        truth = by_turns(ring("w.", "a"), over(ring("r..", "b"), ring("g.", "c")))
        mind = Mind(truth, Eye.fair())
        self.assertEqual(Nights(mind, truth, Eye.fair()).misled_pairs, ())


if __name__ == "__main__":
    unittest.main()
