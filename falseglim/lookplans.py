"""Plans for looking: at which light a ship looks at each beat to come to know where she is."""

from falseglim.beliefs import Beliefs, ListedBeliefs, is_settled
from falseglim.errors import BadRow, NoValue
from falseglim.forms import is_from, is_natural, is_tuple
from falseglim.judging import first_told, first_wrong
from falseglim.sailing import worlds_of_lights
from falseglim.signs import check_row

NO_VALUE = -1


class LookPlan:
    """Whether a ship can surely come to a settled belief, and by which lights."""

    def __init__(self, sea, worlds, eye):
        self.sea = sea
        self.worlds = worlds_of_lights(sea, worlds)
        self.eye = eye
        self._beliefs = Beliefs(sea, self.worlds, eye)
        self._listed = ListedBeliefs(self._beliefs)
        self._values = values_of(self._listed.leads)
        self.table = tuple([(self._listed.known[number],) + self._values.get(number, (NO_VALUE, None))
                            for number in self._listed.order])
        self.breach = None
        first = self.table[0][1]
        self.worst = None if first == NO_VALUE else first

    def __bool__(self):
        return self.worst is not None

    def __len__(self):
        return len(self.table)

    def __iter__(self):
        return iter(self.table)

    def behind(self, belief, light, sign):
        """The belief behind a beat at which a light is looked at and a sign seen; empty if it cannot be seen."""
        return self._beliefs.behind(self._beliefs.belief_of(belief), light).get(sign, ())

    def play(self, row):
        """The lights looked at by the table while the signs of a row are seen, and the belief at the end."""
        if self.worst is None:
            raise NoValue()
        check_row(row)
        number = self._listed.order[0]
        lights = []
        for at, sign in enumerate(row):
            light = self._values[number][1]
            if light is None or sign not in self._listed.leads[number][light]:
                raise BadRow(at)
            lights.append(light)
            number = self._listed.leads[number][light][sign]
        return tuple(lights), self._listed.known[number]


def first_sure_light(led, told):
    """The first light at which all signs lead to beliefs that have been told of; None if there is none."""
    for light, behind in enumerate(led):
        if all([later in told for later in behind.values()]):
            return light
    return None


def values_of(leads):
    """For each belief that has a value a pair of this and the first light by which it is reached; all are numbers."""
    told = {number: (0, None) for number in leads if not leads[number]}
    beats = 0
    while True:
        beats = beats + 1
        lights = {number: first_sure_light(leads[number], told) for number in leads if number not in told}
        found = {number: (beats, light) for number, light in lights.items() if light is not None}
        if not found:
            return told
        told.update(found)


def lookplan_row(beliefs, thing):
    """The row that a thing is: a belief, and a pair of a value and a light."""
    if not is_tuple(thing) or len(thing) != 3:
        return None
    if not is_natural(thing[1]) and not is_from(thing[1], NO_VALUE, NO_VALUE):
        return None
    if thing[2] is not None and not is_from(thing[2], 0, len(beliefs.lights) - 1):
        return None
    belief = beliefs.belief_of(thing[0])
    return None if belief is None else (belief, (thing[1], thing[2]))


def best_of(worst):
    """The value and the light of a belief, if `worst` tells for each light the greatest value behind it.

    It is -1 for a light that has a sign behind which there is no value.
    """
    good = [value for value in worst if value != NO_VALUE]
    if not good:
        return (NO_VALUE, None)
    return (min(good) + 1, worst.index(min(good)))


def judge_lookplan(sea, worlds, eye, table):
    """None if a table tells the values of beliefs; -1 or the number of a row if it does not."""
    beliefs = Beliefs(sea, worlds_of_lights(sea, worlds), eye)
    rows = [lookplan_row(beliefs, thing) for thing in table]
    told = first_told(rows)

    def is_right(belief, value_and_light):
        if is_settled(belief):
            return value_and_light == (0, None)
        worst = []
        for light in beliefs.lights:
            laters = list(beliefs.behind(belief, light).values())
            if not all([later in told for later in laters]):
                return False
            values = [told[later][0] for later in laters]
            worst.append(NO_VALUE if NO_VALUE in values else max(values))
        return value_and_light == best_of(worst)

    return first_wrong([beliefs.first], told, rows, is_right)
