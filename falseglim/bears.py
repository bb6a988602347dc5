"""How many misses a world bears."""

from falseglim.errors import BadBeats, BadDelay
from falseglim.forms import is_from
from falseglim.hindsight import Hindsight
from falseglim.weathers import eye_of

LEAST_BEATS = 2
MOST_BEATS = 8
MOST_DELAY = 60
MOST_MISSES = 2


def check_delay(delay):
    """Refuses what is no delay."""
    if not is_from(delay, 0, MOST_DELAY):
        raise BadDelay(delay)


def is_told_back(world, eye, delay):
    """Whether a world, seen through an eye, is told back with at most a delay."""
    verdict = Hindsight(world, eye)
    return verdict.delay is not None and verdict.delay <= delay


def bears(world, beats, delay):
    """The greatest number of misses in so many beats with which a world is told back; -1 if even none is too many."""
    if not is_from(beats, LEAST_BEATS, MOST_BEATS):
        raise BadBeats(beats)
    check_delay(delay)
    if not is_told_back(world, eye_of(()), delay):
        return -1
    many = 0
    while many < min(MOST_MISSES, beats - 1) and is_told_back(world, eye_of((("miss", many + 1, beats),)), delay):
        many = many + 1
    return many
