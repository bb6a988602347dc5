"""The office: rounds, weathers, orders and coasts, kept by their names."""

from falseglim.coasts import MOST_LIGHTS, Coast, is_pair
from falseglim.errors import BadLight, BadName, InUse, TooMany, Twice, Unknown
from falseglim.forms import is_tuple
from falseglim.orders import Orders, checked_orders
from falseglim.signs import check_round, is_name
from falseglim.weathers import checked_weathers

MOST_THINGS = 30
ROUND = "round"
WEATHER = "weather"
ORDERS = "orders"
COAST = "coast"
STRIKE = "strike"


def checked_places(lights):
    """The tuple of 0 to 8 pairs of a light and the name of a round that a thing is."""
    if not is_tuple(lights) or len(lights) > MOST_LIGHTS:
        raise BadLight(-1)
    names = []
    for number, light in enumerate(lights):
        if not is_pair(light) or not is_name(light[0]) or not is_name(light[1]) or light[0] in names:
            raise BadLight(number)
        names.append(light[0])
    return tuple([(light, name) for light, name in lights])


class Office:
    """Things that are kept by their names, and all deeds by which they came to be kept."""

    def __init__(self):
        # For each name the kind of the thing and the thing; orders are kept as lines, coasts with names of rounds.
        self._things = {}
        self._done = []

    def __len__(self):
        return len(self._things)

    def __iter__(self):
        return iter(self._things)

    def __contains__(self, name):
        return is_name(name) and name in self._things

    def __getitem__(self, name):
        kind, thing = self._kept(name)
        if kind == ORDERS:
            return Orders(thing)
        if kind == COAST:
            return Coast([(light, self._things[row][1]) for light, row in thing])
        return thing

    def __eq__(self, other):
        return isinstance(other, Office) and self._done == other._done

    @property
    def deeds(self):
        """The number of deeds."""
        return len(self._done)

    def kind_of(self, name):
        """The kind of the thing that has a name."""
        kind, _ = self._kept(name)
        return kind

    def keep_round(self, name, row):
        """A round is added."""
        self._check_new(name)
        check_round(row)
        self._add(name, ROUND, row)

    def keep_weather(self, name, weathers):
        """Some weathers are added."""
        self._check_new(name)
        self._add(name, WEATHER, checked_weathers(weathers))

    def keep_orders(self, name, lines):
        """The lines of orders are added."""
        self._check_new(name)
        self._add(name, ORDERS, checked_orders(lines))

    def keep_coast(self, name, lights):
        """A coast is added: pairs of the name of a light and the name of a round."""
        self._check_new(name)
        places = checked_places(lights)
        for _, row in places:
            if row not in self._things or self._things[row][0] != ROUND:
                raise Unknown(row)
        self._add(name, COAST, places)

    def strike(self, name):
        """A thing is struck."""
        if not is_name(name):
            raise BadName(name)
        self._kept(name)
        for other, (kind, thing) in self._things.items():
            if kind == COAST and name in [row for _, row in thing]:
                raise InUse(other)
        del self._things[name]
        self._done.append((STRIKE, name))

    def copy(self):
        """Another office with the same deeds."""
        twin = Office()
        twin._things = dict(self._things)
        twin._done = list(self._done)
        return twin

    def told_deeds(self):
        """All deeds, in order: `("strike", name)`, or the kind, the name and the thing that was added."""
        return tuple(self._done)

    def _kept(self, name):
        if not is_name(name) or name not in self._things:
            raise Unknown(name)
        return self._things[name]

    def _check_new(self, name):
        if not is_name(name):
            raise BadName(name)
        if name in self._things:
            raise Twice(name)

    def _add(self, name, kind, thing):
        if len(self._things) >= MOST_THINGS:
            raise TooMany("thing")
        self._things[name] = (kind, thing)
        self._done.append((kind, name, thing))
