"""Which lights of a sea a ship must watch to know where she was."""

from falseglim.bears import check_delay, is_told_back
from falseglim.lots import all_lots, in_size_order, is_part
from falseglim.makers import check_turn_beats
from falseglim.sailing import lights_of, sailed, worlds_of_lights


def light_lots(sea, worlds, eye, beats, delay):
    """The least lots of lights by which a sailed world is told back with at most a delay."""
    checked = worlds_of_lights(sea, worlds)
    check_turn_beats(beats)
    check_delay(delay)
    found = []
    for lot in in_size_order(all_lots(lights_of(sea))[1:]):
        if any([is_part(least, lot) for least in found]):
            continue
        if is_told_back(sailed(sea, checked, watch=lot, beats=beats), eye, delay):
            found.append(lot)
    return tuple(found)
