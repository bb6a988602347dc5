"""Pairs of standings that are seen alike, the lesser standing first."""

from falseglim.errors import TooMany
from falseglim.ordering import ordered
from falseglim.sights import Sight
from falseglim.signs import SIGNS

MOST_TOGETHER = 2000


def pair_up(first, second):
    """The pair of two standings, the lesser one first."""
    return (first, second) if first <= second else (second, first)


def all_pairs(firsts, seconds):
    """All pairs of one standing of each of two tuples, the lesser one first, ascending."""
    return sorted({pair_up(first, second) for first in firsts for second in seconds})


class StandingPairs:
    """Where signs lead from pairs of standings of a sight, come to or not.

    A sign leads from a pair to all pairs of one standing of each of two tuples; these two tuples are a group, and
    have a number: many pairs lead to the same group.
    """

    def __init__(self, world, eye):
        self.world = world
        self.sight = Sight(world, eye)
        self.groups = []
        self.firsts = all_pairs(self.sight.opening, self.sight.opening)
        self._numbers = {}
        self._behind = {}

    def is_parted(self, pair):
        """Whether the marks of a pair differ."""
        return self.world.marks[pair[0][0]] != self.world.marks[pair[1][0]]

    def led_groups(self, pair):
        """Where signs lead: pairs of a sign and the number of a group."""
        found = []
        for sign in SIGNS:
            firsts, seconds = self._standings_behind(pair[0], sign), self._standings_behind(pair[1], sign)
            if firsts and seconds:
                found.append((sign, self._number_of(pair_up(firsts, seconds))))
        return found

    def members(self, number):
        """All pairs of the group with a number, ascending."""
        firsts, seconds = self.groups[number]
        # At least half of the products are unlike pairs; all of them together, they would fill the memory.
        if len(firsts) * len(seconds) > 2 * MOST_TOGETHER:
            raise TooMany("pair")
        return all_pairs(firsts, seconds)

    def _standings_behind(self, standing, sign):
        if (standing, sign) not in self._behind:
            self._behind[(standing, sign)] = self.sight.onward((standing,), sign)
        return self._behind[(standing, sign)]

    def _number_of(self, group):
        if group not in self._numbers:
            self._numbers[group] = len(self.groups)
            self.groups.append(group)
        return self._numbers[group]


def pairs_in_order(pairs):
    """A dict from all pairs that are together, in order, to the least looks that lead to them."""
    passed = {}

    def follow(pair):
        led = []
        for sign, group in pairs.led_groups(pair):
            # A pair that goes ahead in the order has led there by this sign: no look from here on is less.
            if (sign, group) not in passed:
                passed[(sign, group)] = True
                led.extend([((sign,), later) for later in pairs.members(group)])
        return led

    found = ordered(pairs.firsts, ("",), follow, MOST_TOGETHER, "pair")
    return {pair: rows[0] for pair, rows in found.items()}


class PairGraph:
    """All pairs of standings that are together, told by their numbers in order.

    In `leads` the groups have the numbers behind them: a pair leads to a group by a sign, a group to its pairs by none.
    """

    def __init__(self, world, eye):
        pairs = StandingPairs(world, eye)
        found = pairs_in_order(pairs)
        numbers = {pair: number for number, pair in enumerate(found)}
        self.pairs = tuple(numbers)
        self.looks = tuple(found.values())
        self.parted = [numbers[pair] for pair in found if pairs.is_parted(pair)]
        self.leads = {}
        for pair, number in numbers.items():
            self.leads[number] = [((sign,), len(numbers) + group) for sign, group in pairs.led_groups(pair)]
        for group in range(len(pairs.groups)):
            self.leads[len(numbers) + group] = [(("",), numbers[later]) for later in pairs.members(group)]
