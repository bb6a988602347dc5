"""Nights of a truth, and a mind that looks on."""

from falseglim.errors import NoPair
from falseglim.forms import ascending_pairs, is_tuple, pair_of_integers
from falseglim.nightbeats import NightGraph


def night_pair(thing):
    """The pair of a standing and a knowledge that a thing is, as a tuple; None if it does not have this form."""
    if not is_tuple(thing) or len(thing) != 2:
        return None
    standing, knowledge = pair_of_integers(thing[0]), ascending_pairs(thing[1])
    if standing is None or knowledge is None:
        return None
    return (standing, knowledge)


class Nights:
    """All pairs of a true standing and the mind's knowledge that are come to, in order."""

    def __init__(self, mind, world, eye):
        self.mind = mind
        self.world = world
        self.eye = eye
        self._graph = NightGraph(mind, world, eye)
        self._numbers = {pair: number for number, pair in enumerate(self._graph.pairs)}
        self._misled = tuple([self._graph.pairs[number] for number in self._graph.misled])

    def __len__(self):
        return len(self._numbers)

    def __iter__(self):
        return iter(self._numbers)

    def __contains__(self, pair):
        return night_pair(pair) in self._numbers

    def __getitem__(self, pair):
        checked = night_pair(pair)
        if checked not in self._numbers:
            raise NoPair(pair)
        return self._graph.looks[self._numbers[checked]]

    @property
    def misled_pairs(self):
        """The pairs at which the mind is misled, in order."""
        return self._misled

    def behind(self, pair):
        """The pairs to which true beats lead, each with the sign by which they do, ascending."""
        checked = night_pair(pair)
        if checked not in self._numbers:
            raise NoPair(pair)
        nights = self._graph.nights
        led = nights.true_beats(self._graph.places[self._numbers[checked]])
        return tuple([(letters[0], nights.pair_at(later)) for letters, later in led])
