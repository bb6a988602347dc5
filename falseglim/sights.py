"""Sights: worlds that are seen through eyes."""

from falseglim.errors import BadStanding
from falseglim.eyes import nexts_of
from falseglim.forms import pair_of_integers
from falseglim.signs import check_row, check_sign


class Sight:
    """A world and an eye; a standing is a pair of a state of each."""

    def __init__(self, world, eye):
        self.world = world
        self.eye = eye
        self._nexts = nexts_of(eye.entries)
        # Sets of states as bits: many standings often lead to the same states, and so each is met only once.
        self._bits = [sum([1 << later for later in states]) for states in world.goes]
        self._opening = tuple([(state, 0) for state in world.begins])
        self._standings = self._find_standings()
        self._known = {standing: True for standing in self._standings}

    def __len__(self):
        return len(self._standings)

    def __iter__(self):
        return iter(self._standings)

    def __contains__(self, standing):
        return pair_of_integers(standing) in self._known

    @property
    def opening(self):
        """The first standings, ascending."""
        return self._opening

    def behind(self, standing, sign):
        """The standings to which a beat leads from a standing by a sign seen, ascending."""
        checked = self._check_standing(standing)
        check_sign(sign)
        return self.onward((checked,), sign)

    def signs_of(self, standing):
        """The signs that can be seen at a standing, ascending."""
        state, place = self._check_standing(standing)
        options = self.eye.options(place, self.world.shows[state])
        return "".join(sorted({seen for seen, _ in options}))

    def mark_of(self, standing):
        """The mark of a standing."""
        return self.world.marks[self._check_standing(standing)[0]]

    def can_see(self, look):
        """Whether a look is possible."""
        check_row(look)
        return len(self.after(look)) > 0

    def after(self, look):
        """All standings to which a look leads from the first ones, ascending."""
        standings = self._opening
        for sign in look:
            standings = self.onward(standings, sign)
        return standings

    def onward(self, standings, sign):
        """All standings to which a beat leads from some standings by a sign seen, ascending."""
        found = {}
        for state, place in standings:
            for later in self._nexts.get((place, self.world.shows[state], sign), ()):
                found[later] = found.get(later, 0) | self._bits[state]
        places = sorted(found)
        return tuple([(state, place) for state in range(len(self.world)) for place in places
                      if found[place] >> state & 1])

    def standing_of(self, thing):
        """The standing that a thing is, come to or not, as a tuple; None if it is none."""
        standing = pair_of_integers(thing)
        if standing is None or not 0 <= standing[0] < len(self.world) or standing[1] not in self.eye.states:
            return None
        return standing

    def _check_standing(self, thing):
        standing = self.standing_of(thing)
        if standing is None:
            raise BadStanding(thing)
        return standing

    def _find_standings(self):
        found = {standing: True for standing in self._opening}
        waiting = list(self._opening)
        while waiting:
            state, place = waiting.pop()
            for _, place_next in self.eye.options(place, self.world.shows[state]):
                for state_next in self.world.goes[state]:
                    if (state_next, place_next) not in found:
                        found[(state_next, place_next)] = True
                        waiting.append((state_next, place_next))
        return tuple(sorted(found))
