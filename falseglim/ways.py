"""Ways in which a light can fail, and the worlds of lights that can."""

from falseglim.errors import BadWay
from falseglim.foldround import fold_round
from falseglim.forms import is_from, is_tuple
from falseglim.makers import places_come_to, world_of_places
from falseglim.signs import DARK, check_mark, is_glass, is_round, through_glass
from falseglim.wordlines import read_tuples, write_tuples

WAY_WORDS = {
    "glass": ("glass",),
    "lame": ("small",),
    "standin": ("round",),
    "restart": ("small",),
    "slip": ("small",),
}
# The bounds of the integers in ways.
WAY_BOUNDS = {"lame": (2, 4), "restart": (1, 3), "slip": (2, 9)}
# The ways that can have begun long ago; all others begin when the light does not fail yet.
ELDER_WAYS = ("glass", "lame", "standin")


def is_way(thing):
    """Whether a thing is a way of failing."""
    if not is_tuple(thing) or len(thing) != 2 or not isinstance(thing[0], str):
        return False
    if thing[0] in WAY_BOUNDS:
        low, high = WAY_BOUNDS[thing[0]]
        return is_from(thing[1], low, high)
    if thing[0] == "glass":
        return is_glass(thing[1])
    return thing[0] == "standin" and is_round(thing[1])


def checked_ways(ways):
    """The ways that were passed, as a tuple of tuples."""
    for number, way in enumerate(ways):
        if not is_way(way):
            raise BadWay(number)
    return tuple([tuple(way) for way in ways])


# Each step tells where a place leads while the light fails, or as it begins to, and the sign that is shown there.


def glass_step(world, glass, place):
    """A light that is seen behind a glass from some beat on."""
    state, fails = place
    sign = world.shows[state]
    later = [(behind, 1) for behind in world.goes[state]]
    return later, sign if fails == 0 else through_glass(glass, sign)


def lame_step(world, number, place):
    """A light of which each flash with a number that can be divided by this one is dark."""
    state, fails = place
    sign = world.shows[state]
    if fails == 0:
        return [(behind, 1) for behind in world.goes[state]], sign
    flashes, was_lit = (fails - 1) // 2, (fails - 1) % 2
    if sign != DARK and was_lit == 0:
        flashes = (flashes + 1) % number
    now_lit = 0 if sign == DARK else 1
    later = [(behind, 1 + 2 * flashes + now_lit) for behind in world.goes[state]]
    return later, DARK if flashes == 0 else sign


def standin_step(world, row, place):
    """A light in whose place another lamp shows a round."""
    state, fails = place
    later = [(behind, fails % len(row) + 1) for behind in world.goes[state]]
    return later, world.shows[state] if fails == 0 else row[fails - 1]


def restart_step(world, times, place):
    """A light that begins anew, no more than so many times."""
    state, fails = place
    later = [(behind, fails) for behind in world.goes[state]]
    if fails < times:
        later.append((world.begins[0], fails + 1))
    return later, world.shows[state]


def slip_step(world, beats, place):
    """A light that stays for a beat or passes a state over, once in so many beats."""
    state, fails = place
    sign = world.shows[state]
    if fails > 0:
        return [(behind, fails - 1) for behind in world.goes[state]], sign
    passed = [(further, beats - 1) for behind in world.goes[state] for further in world.goes[behind]]
    return [(state, beats - 1)] + passed, sign


STEPS = {
    "glass": glass_step,
    "lame": lame_step,
    "standin": standin_step,
    "restart": restart_step,
    "slip": slip_step,
}


def failing_in(world, way, mark):
    """The world that can fail in one way; where it fails it has the mark told, if one is told."""
    word, told = way
    step = STEPS[word]

    def follow(place):
        later, _ = step(world, told, place)
        if place[1] == 0:
            later = [(behind, 0) for behind in world.goes[place[0]]] + later
        return later

    def look(place):
        _, sign = step(world, told, place)
        return sign, world.marks[place[0]] if mark is None or place[1] == 0 else mark

    elder = (0, 1) if word in ELDER_WAYS else (0,)
    places = places_come_to([(state, fails) for state in world.begins for fails in elder], follow)
    return world_of_places(places, [place for place in places if place[0] in world.begins], follow, look)


def failing(world, *ways, mark=None):
    """The world that can fail in some ways, each put on what the ones before made of it."""
    checked = checked_ways(ways)
    if mark is not None:
        check_mark(mark)
    for way in checked:
        world = failing_in(world, way, mark)
    return world


def write_ways(ways):
    """The lines of some ways."""
    if not is_tuple(ways):
        raise BadWay(-1)
    return write_tuples([(word, fold_round(told) if word == "standin" else told) for word, told in checked_ways(ways)])


def read_ways(lines):
    """The ways that lines tell."""
    return checked_ways(read_tuples(lines, dict(WAY_WORDS)))
