"""Point 4: made worlds."""

import unittest

from falseglim.makers import behind_glass, by_turns, either, marked, over, ring
from falseglim.worlds import World
from tests.helpers import error_of, some_world


def made(firsts, follow, look):
    """The world of the tuples that are come to, as the document tells it."""
    found, waiting = set(firsts), list(firsts)
    while waiting:
        for later in follow(waiting.pop()):
            if later not in found:
                found.add(later)
                waiting.append(later)
    places = sorted(found)
    return World("".join(look(place)[0] for place in places),
                 [sorted(places.index(later) for later in follow(place)) for place in places],
                 sorted(places.index(place) for place in firsts), [look(place)[1] for place in places])


def full(many, sign="w"):
    """A world in which each state goes on to each one."""
    states = tuple(range(many))
    return World(sign * many, (states,) * many, states, ("",) * many)


class TestRing(unittest.TestCase):
    def test_ring(self):
        self.assertEqual(ring("w..", "a"), World("w..", ((1,), (2,), (0,)), (0, 1, 2), ("a",) * 3))
        self.assertEqual(ring("w..", "", 1), World("w..", ((1,), (2,), (0,)), (1,), ("",) * 3))
        self.assertEqual(ring("w..", "a", at=0).begins, (0,))
        self.assertEqual(ring("g", "a"), World("g", ((0,),), (0,), ("a",)))
        self.assertEqual(len(ring("g" * 24, "a")), 24)

    def test_a_round_that_repeats_itself_keeps_its_length(self):
        self.assertEqual(len(ring("w.w.", "a")), 4)

    def test_errors_in_their_order(self):
        for odd in (None, 3, True, ("w",), ["w"], "", "w" * 25, "x" * 25):
            self.assertEqual(error_of(ring, odd, "A", 9), ("BadRound", -1))
        self.assertEqual(error_of(ring, "w.-x", "A", 9), ("BadRound", 2))
        for odd in (None, "A", 1, True, ["a"], "a" * 9, "a-"):
            self.assertEqual(error_of(ring, "w.", odd, 9), ("BadMark", odd))
        for odd in (2, -1, True, False, "0", (0,), 1.0, [], 10 ** 39):
            self.assertEqual(error_of(ring, "w.", "", odd), ("BadPlace", odd))


class TestEither(unittest.TestCase):
    def test_states_in_order(self):
        first, second = ring("w.", "a", 1), ring("g", "b")
        self.assertEqual(either(first, second), World("w.g", ((1,), (0,), (2,)), (1, 2), ("a", "a", "b")))
        self.assertEqual(either(second, first), World("gw.", ((0,), (2,), (1,)), (0, 2), ("b", "a", "a")))

    def test_only_what_is_come_to(self):
        world = World("wg.", ((0,), (2,), (1,)), (0,), ("a", "b", "c"))
        self.assertEqual(either(world), World("w", ((0,),), (0,), ("a",)))
        self.assertEqual(either(world, world).shows, "ww")

    def test_against_the_words(self):
        for seed in range(30):
            worlds = [some_world(seed + 100 * number, 5) for number in range(3)]
            self.assertEqual(either(*worlds), made(
                [(n, s) for n in range(3) for s in worlds[n].begins],
                lambda p: [(p[0], s) for s in worlds[p[0]].goes[p[1]]],
                lambda p: (worlds[p[0]].shows[p[1]], worlds[p[0]].marks[p[1]])))

    def test_how_many(self):
        light = ring("w...........", "a")
        self.assertEqual(len(either(*[light] * 8)), 96)
        self.assertEqual(error_of(either), ("BadWorlds", -1))
        for odd in (None, 0, "w", (light,)):
            self.assertEqual(error_of(either, light, odd), ("BadWorlds", -1))
        self.assertEqual(error_of(either, *[light] * 9), ("BadWorlds", -1))
        self.assertEqual(error_of(either, *[light] * 7, ring("w" * 13, "")), ("TooMany", "state"))
        self.assertEqual(error_of(either, full(96), light), ("TooMany", "state"))
        self.assertEqual(len(either(full(96))), 96)


class TestOver(unittest.TestCase):
    def test_signs_and_marks(self):
        world = over(ring("w..", "a", 0), ring("gr.", "b", 0))
        self.assertEqual(world, World("wr.", ((1,), (2,), (0,)), (0,), ("a",) * 3))

    def test_each_pair_of_beginnings(self):
        world = over(ring("w.", "a"), ring("g.", "b"))
        self.assertEqual(world.begins, (0, 1, 2, 3))
        self.assertEqual(world.shows, "wwg.")
        self.assertEqual(world.goes, ((3,), (2,), (1,), (0,)))

    def test_against_the_words(self):
        for seed in range(30):
            first, second = some_world(seed, 4), some_world(seed + 500, 5)
            self.assertEqual(over(first, second), made(
                [(s, t) for s in first.begins for t in second.begins],
                lambda p: [(s, t) for s in first.goes[p[0]] for t in second.goes[p[1]]],
                lambda p: (second.shows[p[1]] if first.shows[p[0]] == "." else first.shows[p[0]], first.marks[p[0]])))

    def test_too_many(self):
        self.assertEqual(len(over(ring("w" + "." * 7, ""), ring("w" + "." * 11, ""))), 96)
        self.assertEqual(error_of(over, ring("w" * 9, ""), ring("w" * 11, "")), ("TooMany", "state"))
        self.assertEqual(error_of(over, full(96), full(96)), ("TooMany", "state"))
        # Only what is come to counts.
        self.assertEqual(len(over(ring("w" * 24, "", 0), ring("w" * 24, "", 3))), 24)


class TestByTurns(unittest.TestCase):
    def test_turns(self):
        world = by_turns(ring("w", "a"), ring("g.", "b", 0), beats=2)
        self.assertEqual(world, World("wwg.", ((1,), (2,), (3,), (0,)), (0,), ("a",) * 4))
        world = by_turns(ring("w.", "a", 0))
        self.assertEqual(world, World("w.", ((1,), (0,)), (0,), ("a",) * 2))
        self.assertEqual(by_turns(ring("w.", "a", 0), ring("gr", "b", 0)).shows, "wr")

    def test_against_the_words(self):
        for seed in range(12):
            worlds = [some_world(seed + 100 * number, 2) for number in range(1 + seed % 3)]
            for beats in (1, 2, 3):
                turns = len(worlds) * beats

                def pairs(choices):
                    found = [()]
                    for choice in choices:
                        found = [row + (one,) for row in found for one in choice]
                    return found

                self.assertEqual(by_turns(*worlds, beats=beats), made(
                    [(0,) + row for row in pairs([world.begins for world in worlds])],
                    lambda p: [((p[0] + 1) % turns,) + row
                               for row in pairs([world.goes[s] for world, s in zip(worlds, p[1:])])],
                    lambda p: (worlds[p[0] // beats].shows[p[1 + p[0] // beats]], worlds[0].marks[p[1]])))

    def test_errors_in_their_order(self):
        light = ring("w", "a")
        self.assertEqual(error_of(by_turns), ("BadWorlds", -1))
        self.assertEqual(error_of(by_turns, beats=0), ("BadWorlds", -1))
        self.assertEqual(error_of(by_turns, light, light, light, light, beats=0), ("BadWorlds", -1))
        self.assertEqual(error_of(by_turns, light, None, beats=0), ("BadWorlds", -1))
        for odd in (0, 10, -1, True, None, "1", 1.0, 10 ** 39):
            self.assertEqual(error_of(by_turns, full(96), full(96), beats=odd), ("BadBeats", odd))
        self.assertEqual(error_of(by_turns, full(96), full(96), full(96), beats=9), ("TooMany", "state"))
        self.assertEqual(len(by_turns(light, light, light, beats=9)), 27)
        self.assertEqual(len(by_turns(full(96))), 96)
        self.assertEqual(len(by_turns(full(48), light)), 96)
        self.assertEqual(error_of(by_turns, full(49), light), ("TooMany", "state"))


class TestOthers(unittest.TestCase):
    def test_marked_keeps_all_states(self):
        world = World("wg.", ((0,), (2,), (1,)), (0,), ("a", "b", "c"))
        self.assertEqual(marked(world, "z"), World("wg.", ((0,), (2,), (1,)), (0,), ("z",) * 3))
        self.assertEqual(marked(world, "").marks, ("",) * 3)
        for odd in (None, "A", "a" * 9, 1):
            self.assertEqual(error_of(marked, world, odd), ("BadMark", odd))

    def test_behind_glass_keeps_all_states(self):
        world = World("wgr.", ((0,), (2,), (1,), (0,)), (0,), ("a", "b", "c", ""))
        self.assertEqual(behind_glass(world, "g.wr"), World("r.wg", world.goes, (0,), world.marks))
        self.assertEqual(behind_glass(world, "...."), World("....", world.goes, (0,), world.marks))
        for odd in (None, "", "...", ".....", "...x", 4, True, (".", ".", ".", "."), [".", ".", ".", "."]):
            self.assertEqual(error_of(behind_glass, world, odd), ("BadGlass", odd))


if __name__ == "__main__":
    unittest.main()
