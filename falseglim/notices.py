"""Notices: what changes a coast, and what is in force of that which a ship has heard."""

from falseglim.coasts import MOST_LIGHTS, Coast
from falseglim.errors import BadNotice, TooMany
from falseglim.foldround import fold_round
from falseglim.forms import is_from, is_tuple
from falseglim.lots import checked_lot
from falseglim.signs import is_name, is_round
from falseglim.wordlines import read_tuples, write_tuples

MOST_NOTICES = 8
NOTICE_WORDS = {
    "set": ("name", "round"),
    "strike": ("name",),
    "withdraw": ("notice",),
}


def is_notice(thing, number):
    """Whether a thing is a notice with a number."""
    if not is_tuple(thing) or len(thing) == 0 or not isinstance(thing[0], str) or thing[0] not in NOTICE_WORDS:
        return False
    if len(thing) != len(NOTICE_WORDS[thing[0]]) + 1:
        return False
    if thing[0] == "withdraw":
        return is_from(thing[1], 0, number - 1)
    return is_name(thing[1]) and (thing[0] == "strike" or is_round(thing[2]))


def checked_notices(notices):
    """The tuple of at most 8 notices that a thing is."""
    if not is_tuple(notices) or len(notices) > MOST_NOTICES:
        raise BadNotice(-1)
    for number, notice in enumerate(notices):
        if not is_notice(notice, number):
            raise BadNotice(number)
    return tuple([tuple(notice) for notice in notices])


def those_in_force(notices, lot):
    """The numbers of those notices of a lot that none that is in force withdraws, ascending."""
    found = []
    withdrawn = {}
    # Only a later notice withdraws: whether that one is in force is known by then.
    for number in lot[::-1]:
        if number not in withdrawn:
            found.append(number)
            if notices[number][0] == "withdraw":
                withdrawn[notices[number][1]] = True
    return tuple(found[::-1])


def changed_lights(lights, notices):
    """The lights behind some notices, in order."""
    # A dict keeps a key that is set again in its place, and puts one that was struck at the end.
    rounds = {name: row for name, row in lights}
    for notice in notices:
        if notice[0] == "set":
            rounds[notice[1]] = notice[2]
        if notice[0] == "strike" and notice[1] in rounds:
            del rounds[notice[1]]
    return tuple(rounds.items())


def coast_of(lights):
    """The coast of some lights, which may be too many."""
    if len(lights) > MOST_LIGHTS:
        raise TooMany("light")
    return Coast(lights)


class Notices:
    """A coast, and the notices that change it."""

    def __init__(self, coast, notices):
        self.coast = coast
        self.notices = checked_notices(notices)
        self._true_lights = self._lights_behind(tuple(range(len(self.notices))))

    def __len__(self):
        return len(self.notices)

    def __iter__(self):
        return iter(self.notices)

    def __eq__(self, other):
        return isinstance(other, Notices) and self.coast == other.coast and self.notices == other.notices

    @property
    def true_coast(self):
        """The coast behind all notices."""
        return coast_of(self._true_lights)

    def in_force(self, lot):
        """The numbers of the notices that are in force for a lot, ascending."""
        return those_in_force(self.notices, checked_lot(lot, len(self.notices)))

    def chart(self, lot):
        """The coast behind all notices that are in force for a lot."""
        return coast_of(self._lights_behind(checked_lot(lot, len(self.notices))))

    def _lights_behind(self, lot):
        force = [self.notices[number] for number in those_in_force(self.notices, lot)]
        return changed_lights(self.coast.lights, force)


def write_notices(notices):
    """The lines of the notices alone."""
    return write_tuples([notice[:2] + tuple([fold_round(row) for row in notice[2:]]) for notice in notices])


def read_notices(coast, lines):
    """The notices to a coast that lines tell."""
    return Notices(coast, read_tuples(lines, dict(NOTICE_WORDS)))
