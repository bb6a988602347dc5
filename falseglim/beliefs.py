"""Beliefs: where a ship can be, and how the lights can be, by all that she has seen."""

from falseglim.forms import is_from, is_integer, is_tuple
from falseglim.joining import entries_by_shown
from falseglim.ordering import ordered
from falseglim.signs import through_glass

MOST_BELIEFS = 300


def all_tuples(choices):
    """All tuples with one thing of each choice, in the order of the choices."""
    rows = [()]
    for choice in choices:
        rows = [row + (one,) for row in rows for one in choice]
    return rows


def is_settled(belief):
    """Whether all places of a belief have one region."""
    return len({region for region, _, _ in belief}) == 1


class Beliefs:
    """Where looking at the lights of a sea leads from beliefs, listed or not."""

    def __init__(self, sea, worlds, eye):
        self.sea = sea
        self.worlds = worlds
        self.eye = eye
        self.lights = list(range(len(worlds)))
        states = all_tuples([world.begins for world in worlds])
        self.first = tuple([place + (0,) for place in all_tuples([sea.begins, states])])
        self._options = entries_by_shown(eye.entries)
        self._further = {}

    def behind(self, belief, light):
        """A dict from each sign that can be seen at a light, ascending, to the belief behind it."""
        found = {}
        for region, states, place in belief:
            shown = through_glass(self.sea.sectors[region][light], self.worlds[light].shows[states[light]])
            for seen, later in self._options[(place, shown)]:
                group = found.setdefault(seen, {})
                for further in self._further_from(region, states):
                    group[further + (later,)] = True
        return {seen: tuple(sorted(found[seen])) for seen in sorted(found)}

    def place_of(self, thing):
        """The place that a thing is, as a tuple of tuples, or None."""
        if not is_tuple(thing) or len(thing) != 3 or not is_from(thing[0], 0, len(self.sea) - 1):
            return None
        if not is_tuple(thing[1]) or len(thing[1]) != len(self.worlds):
            return None
        if not all([is_from(state, 0, len(world) - 1) for state, world in zip(thing[1], self.worlds)]):
            return None
        if not is_integer(thing[2]) or thing[2] not in self.eye.states:
            return None
        return (thing[0], tuple(thing[1]), thing[2])

    def belief_of(self, thing):
        """The belief that a thing is, listed or not, as a tuple of tuples, or None."""
        if not is_tuple(thing) or len(thing) == 0:
            return None
        places = []
        for part in thing:
            place = self.place_of(part)
            if place is None or (places and place <= places[-1]):
                return None
            places.append(place)
        return tuple(places)

    def _further_from(self, region, states):
        if (region, states) not in self._further:
            nexts = all_tuples([world.goes[state] for world, state in zip(self.worlds, states)])
            self._further[(region, states)] = all_tuples([self.sea.ways[region], nexts])
        return self._further[(region, states)]


class ListedBeliefs:
    """All beliefs to which looking leads, each with a number.

    `leads` tells for the number of a belief where it leads: for each light a dict from the signs that can be seen to
    the numbers behind them; for a settled belief there are no lights. `order` are the numbers in order.
    """

    def __init__(self, beliefs):
        self.beliefs = beliefs
        self.known = []
        self.leads = {}
        self._numbers = {}
        self.order = self._find_order()

    def _find_order(self):
        def follow(number):
            self.leads[number] = self._led(number)
            return [((str(light) + sign,), later) for light, led in enumerate(self.leads[number])
                    for sign, later in led.items()]

        # The letters of a row are pairs of a light and a sign, all of one length: so strings compare as tuples do.
        return list(ordered([self._number_of(self.beliefs.first)], ("",), follow, MOST_BELIEFS, "belief"))

    def _led(self, number):
        belief = self.known[number]
        if is_settled(belief):
            return []
        found = []
        for light in self.beliefs.lights:
            behind = self.beliefs.behind(belief, light)
            found.append({sign: self._number_of(behind[sign]) for sign in behind})
        return found

    def _number_of(self, belief):
        if belief not in self._numbers:
            self._numbers[belief] = len(self.known)
            self.known.append(belief)
        return self._numbers[belief]
