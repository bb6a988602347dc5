"""Worlds that are put together from parts."""

from falseglim.errors import BadBeats, BadPlace, BadWorlds, TooMany
from falseglim.forms import is_from
from falseglim.signs import DARK, check_glass, check_mark, check_round, through_glass
from falseglim.worlds import MOST_STATES, World

MOST_PARTS = 8
MOST_TURNS = 3
MOST_TURN_BEATS = 9


def places_come_to(firsts, follow):
    """All places that are come to from the first ones, ascending."""
    found = {place: True for place in firsts}
    waiting = list(firsts)
    while waiting:
        if len(found) > MOST_STATES:
            raise TooMany("state")
        place = waiting.pop()
        for later in follow(place):
            if later not in found:
                found[later] = True
                waiting.append(later)
    return sorted(found)


def world_of_places(places, begins, follow, look):
    """The world of some places, ascending; `follow` tells where a place leads, `look` its sign and its mark."""
    numbers = {place: number for number, place in enumerate(places)}
    shows = "".join([look(place)[0] for place in places])
    goes = [sorted({numbers[later] for later in follow(place)}) for place in places]
    marks = [look(place)[1] for place in places]
    return World(shows, goes, sorted({numbers[place] for place in begins}), marks)


def made_world(firsts, follow, look):
    """The world of all places that are come to from the first ones, which begins in these."""
    return world_of_places(places_come_to(firsts, follow), firsts, follow, look)


def combined(choices):
    """All tuples with one thing of each choice; they are different places, and all of them are come to."""
    rows = [()]
    for choice in choices:
        rows = [row + (one,) for row in rows for one in choice]
        if len(rows) > MOST_STATES:
            raise TooMany("state")
    return rows


def check_worlds(worlds, most):
    """Refuses what are not one to so many worlds."""
    if not 1 <= len(worlds) <= most or not all([isinstance(world, World) for world in worlds]):
        raise BadWorlds(-1)


def check_turn_beats(beats):
    """Refuses what is no number of beats for which a world can be seen in its turn."""
    if not is_from(beats, 1, MOST_TURN_BEATS):
        raise BadBeats(beats)


def ring(row, mark, at=None):
    """The world that shows a round for ever; it begins anywhere, or at one index of the round."""
    check_round(row)
    check_mark(mark)
    many = len(row)
    if at is not None and not is_from(at, 0, many - 1):
        raise BadPlace(at)
    goes = [((index + 1) % many,) for index in range(many)]
    begins = list(range(many)) if at is None else [at]
    return World(row, goes, begins, [mark] * many)


def either(*worlds):
    """The world that is one of several worlds."""
    check_worlds(worlds, MOST_PARTS)
    firsts = [(number, state) for number, world in enumerate(worlds) for state in world.begins]

    def follow(place):
        number, state = place
        return [(number, later) for later in worlds[number].goes[state]]

    def look(place):
        number, state = place
        return worlds[number].shows[state], worlds[number].marks[state]

    return made_world(firsts, follow, look)


def over(first, second):
    """The world in which the second one is seen where the first one is dark."""

    def follow(place):
        return combined([first.goes[place[0]], second.goes[place[1]]])

    def look(place):
        sign = first.shows[place[0]]
        if sign == DARK:
            sign = second.shows[place[1]]
        return sign, first.marks[place[0]]

    return made_world(combined([first.begins, second.begins]), follow, look)


def by_turns(*worlds, beats=1):
    """The world in which each of several worlds is seen for so many beats, one behind the other."""
    check_worlds(worlds, MOST_TURNS)
    check_turn_beats(beats)
    turns = len(worlds) * beats

    def follow(place):
        turn = (place[0] + 1) % turns
        return combined([(turn,)] + [world.goes[state] for world, state in zip(worlds, place[1:])])

    def look(place):
        number = place[0] // beats
        return worlds[number].shows[place[number + 1]], worlds[0].marks[place[1]]

    return made_world(combined([(0,)] + [world.begins for world in worlds]), follow, look)


def marked(world, mark):
    """The world with one mark for all of its states."""
    check_mark(mark)
    return World(world.shows, world.goes, world.begins, [mark] * len(world))


def behind_glass(world, glass):
    """The world as it looks through a glass."""
    check_glass(glass)
    shows = "".join([through_glass(glass, sign) for sign in world.shows])
    return World(shows, world.goes, world.begins, world.marks)
