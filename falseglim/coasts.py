"""Coasts: lists of lights."""

from falseglim.errors import BadLight, Unknown, Unlit
from falseglim.forms import is_tuple
from falseglim.makers import either, ring
from falseglim.rhythmtext import read_round
from falseglim.signs import is_name, is_round

MOST_LIGHTS = 8


def is_pair(thing):
    """Whether a thing is a tuple of two things."""
    return is_tuple(thing) and len(thing) == 2


def checked_lights(lights):
    """The tuple of 0 to 8 pairs of different names and rounds that a thing is."""
    if not is_tuple(lights) or len(lights) > MOST_LIGHTS:
        raise BadLight(-1)
    names = []
    for number, light in enumerate(lights):
        if not is_pair(light) or not is_name(light[0]) or not is_round(light[1]) or light[0] in names:
            raise BadLight(number)
        names.append(light[0])
    return tuple([(name, row) for name, row in lights])


def read_light(thing):
    """A pair of a name and the round that its text stands for; what is no pair is left as it is."""
    return (thing[0], read_round(thing[1])) if is_pair(thing) else thing


class Coast:
    """Lights, each a pair of a name and a round."""

    def __init__(self, lights):
        self.lights = checked_lights(lights)
        self._rounds = {name: row for name, row in self.lights}

    def __contains__(self, name):
        return is_name(name) and name in self._rounds

    def __getitem__(self, name):
        if not is_name(name) or name not in self._rounds:
            raise Unknown(name)
        return self._rounds[name]

    def __len__(self):
        return len(self.lights)

    def __iter__(self):
        return iter(self.lights)

    def __eq__(self, other):
        return isinstance(other, Coast) and self.lights == other.lights

    def as_world(self):
        """The world that is either of the rings of the lights, each with its name as the mark."""
        if not self.lights:
            raise Unlit()
        rings = [ring(row, name) for name, row in self.lights]
        return either(*rings)

    @classmethod
    def of_texts(cls, *pairs):
        """The coast of pairs of a name and a rhythm text."""
        return cls([read_light(pair) for pair in pairs])
