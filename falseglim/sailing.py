"""What a ship sees of some lights of a sea while she sails."""

from falseglim.errors import BadKind, BadWatch, BadWorlds
from falseglim.forms import ascending_integers, is_tuple
from falseglim.makers import check_turn_beats, combined, made_world
from falseglim.seas import MOST_LIGHTS
from falseglim.signs import through_glass
from falseglim.worlds import World

MARKED_BY = ("region", "light")


def lights_of(sea):
    """The number of lights of a sea."""
    return len(sea.sectors[0])


def worlds_of_lights(sea, worlds):
    """The tuple of a world for each light of a sea that a thing is."""
    if not is_tuple(worlds) or len(worlds) != lights_of(sea):
        raise BadWorlds(-1)
    if not all([isinstance(world, World) for world in worlds]):
        raise BadWorlds(-1)
    return tuple(worlds)


def watched_lights(sea, watch):
    """The ascending tuple of 1 to 3 numbers of lights of a sea that a thing is."""
    lights = ascending_integers(watch)
    if not lights or len(lights) > MOST_LIGHTS or lights[0] < 0 or lights[-1] >= lights_of(sea):
        raise BadWatch(watch)
    return lights


def sailed(sea, worlds, *, watch, beats=1, ask="region"):
    """The world that a ship sees of the watched lights, by turns, marked by her region or by the first light."""
    checked = worlds_of_lights(sea, worlds)
    lights = watched_lights(sea, watch)
    check_turn_beats(beats)
    if not isinstance(ask, str) or ask not in MARKED_BY:
        raise BadKind(ask)
    watched = [checked[light] for light in lights]
    turns = len(watched) * beats

    def follow(place):
        turn = (place[0] + 1) % turns
        return combined([(turn,), sea.ways[place[1]]] + [world.goes[state] for world, state in zip(watched, place[2:])])

    def look(place):
        number, region = place[0] // beats, place[1]
        sign = watched[number].shows[place[number + 2]]
        mark = sea.regions[region] if ask == "region" else watched[0].marks[place[2]]
        return through_glass(sea.sectors[region][lights[number]], sign), mark

    return made_world(combined([(0,), sea.begins] + [world.begins for world in watched]), follow, look)
