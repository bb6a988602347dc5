"""Nights of a truth, and a mind that looks on."""

from falseglim.errors import NoPair
from falseglim.forms import ascending_pairs, is_tuple, pair_of_integers
from falseglim.minds import sure_mark
from falseglim.ordering import ordered
from falseglim.sights import Sight
from falseglim.signs import SIGNS

MOST_PAIRS = 1500


def night_pair(thing):
    """The pair of a standing and a knowledge that a thing is, as a tuple; None if it does not have this form."""
    if not is_tuple(thing) or len(thing) != 2:
        return None
    standing, knowledge = pair_of_integers(thing[0]), ascending_pairs(thing[1])
    if standing is None or knowledge is None:
        return None
    return (standing, knowledge)


class Nights:
    """All pairs of a true standing and the mind's knowledge that are come to, in order."""

    def __init__(self, mind, world, eye):
        self.mind = mind
        self.world = world
        self.eye = eye
        self._truth = Sight(world, eye)
        self._behind = {}
        self._looks = self._find_looks()
        self._misled = self._find_misled()

    def __len__(self):
        return len(self._looks)

    def __iter__(self):
        return iter(self._looks)

    def __contains__(self, pair):
        return night_pair(pair) in self._looks

    def __getitem__(self, pair):
        checked = night_pair(pair)
        if checked not in self._looks:
            raise NoPair(pair)
        return self._looks[checked]

    @property
    def misled_pairs(self):
        """The pairs at which the mind is misled, in order."""
        return self._misled

    def behind(self, pair):
        """The pairs to which true beats lead, each with the sign by which they do, ascending."""
        checked = night_pair(pair)
        if checked not in self._looks:
            raise NoPair(pair)
        return tuple([(letters[0], later) for letters, later in self._true_beats(checked)])

    def _find_looks(self):
        firsts = [(standing, self.mind.opening) for standing in self._truth.opening]
        found = ordered(firsts, ("",), lambda pair: self._true_beats(pair), MOST_PAIRS, "night")
        return {pair: rows[0] for pair, rows in found.items()}

    def _true_beats(self, pair):
        standing, knowledge = pair
        led = []
        for sign in SIGNS:
            later = self._truth.onward((standing,), sign)
            if later:
                known = self._knowledge_behind(knowledge, sign)
                led.extend([((sign,), (further, known)) for further in later])
        return led

    def _knowledge_behind(self, knowledge, sign):
        # Many true standings share one knowledge: what it leads to is found once.
        if (knowledge, sign) not in self._behind:
            self._behind[(knowledge, sign)] = self.mind.sight.onward(knowledge, sign)
        return self._behind[(knowledge, sign)]

    def _find_misled(self):
        sure = {}
        for _, knowledge in self._looks:
            if knowledge not in sure:
                sure[knowledge] = sure_mark(self.mind.world, knowledge)
        return tuple([pair for pair in self._looks
                      if sure[pair[1]] is not None and sure[pair[1]] != self.world.marks[pair[0][0]]])
