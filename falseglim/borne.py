"""Lots of failings that a mind bears without being misled."""

from falseglim.errors import BadMenu, BadWorlds
from falseglim.forms import is_tuple
from falseglim.lots import all_lots, checked_lot, greatest_lots
from falseglim.nightbeats import NightGraph
from falseglim.ways import checked_ways, failing
from falseglim.worlds import World

MOST_WORLDS = 6
MOST_MENU = 4


def checked_worlds(worlds):
    """The tuple of 1 to 6 worlds that a thing is."""
    if not is_tuple(worlds) or not 1 <= len(worlds) <= MOST_WORLDS:
        raise BadWorlds(-1)
    if not all([isinstance(world, World) for world in worlds]):
        raise BadWorlds(-1)
    return tuple(worlds)


def checked_menu(menu):
    """The tuple of at most 4 ways that a thing is."""
    if not is_tuple(menu) or len(menu) > MOST_MENU:
        raise BadMenu(-1)
    return checked_ways(menu)


def spoiler_of(mind, worlds, eye, ways):
    """The number of the first failing world by which a mind is misled, and the least look behind which it is."""
    found = None
    # All worlds are gone through, also behind the first one: any of them can be too large.
    for number, world in enumerate(worlds):
        look = NightGraph(mind, failing(world, *ways), eye).misled_look()
        if found is None and look is not None:
            found = (number, look)
    return found


class BorneLots:
    """Which lots of a menu of failings a mind bears, for some true worlds and a true eye."""

    def __init__(self, mind, worlds, eye, menu):
        self.mind = mind
        self.worlds = checked_worlds(worlds)
        self.eye = eye
        self.menu = checked_menu(menu)
        self._spoilers = {}
        for lot in all_lots(len(self.menu)):
            ways = [self.menu[number] for number in lot]
            self._spoilers[lot] = spoiler_of(mind, self.worlds, eye, ways)
        self.lots = greatest_lots([lot for lot in self._spoilers if self._spoilers[lot] is None])

    def spoiler(self, lot):
        """By which world, and behind which least look, the mind is misled with a lot; None if the lot is borne."""
        return self._spoilers[checked_lot(lot, len(self.menu))]
