"""Cautions: other things that can be seen, put beside what a mind supposes."""

from falseglim.errors import BadMenu
from falseglim.forms import is_tuple
from falseglim.lots import all_lots, checked_lot, least_lots
from falseglim.makers import either, marked
from falseglim.minds import Mind
from falseglim.nightbeats import NightGraph
from falseglim.worlds import World

MOST_MENU = 4


def checked_menu(menu):
    """The tuple of at most 4 worlds that a thing is."""
    if not is_tuple(menu) or len(menu) > MOST_MENU or not all([isinstance(world, World) for world in menu]):
        raise BadMenu(-1)
    return tuple(menu)


def careful_mind(mind, cautions):
    """The mind with some cautions beside its world."""
    worlds = [mind.world] + [marked(world, "") for world in cautions]
    return Mind(either(*worlds), mind.eye)


class Cautions:
    """Which lots of a menu of cautions are enough for a mind not to be misled by a truth."""

    def __init__(self, mind, world, eye, menu):
        self.mind = mind
        self.world = world
        self.eye = eye
        self.menu = checked_menu(menu)
        self._spoilers = {}
        for lot in all_lots(len(self.menu)):
            careful = careful_mind(mind, [self.menu[number] for number in lot])
            self._spoilers[lot] = NightGraph(careful, world, eye).misled_look()
        self.lots = least_lots([lot for lot in self._spoilers if self._spoilers[lot] is None])

    def spoiler(self, lot):
        """The least look behind which the mind with a lot is misled, None if the lot is enough."""
        return self._spoilers[checked_lot(lot, len(self.menu))]
