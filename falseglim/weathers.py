"""Weathers: what can come between a light and who looks at it."""

from falseglim.errors import BadWeather
from falseglim.eyes import Eye
from falseglim.forms import is_from, is_tuple
from falseglim.signs import DARK, SIGNS, is_lit, is_sign
from falseglim.wordlines import read_tuples, write_tuples

MOST_WEATHERS = 6
WEATHER_WORDS = {
    "lose": ("small",),
    "miss": ("small", "small"),
    "take": ("lit", "sign"),
    "always": ("lit", "sign"),
    "glow": (),
    "late": (),
}


def lose_entries(weather):
    """Entries for lit signs seen dark, no more than so many times in all."""
    many = weather[1]
    found = [(lost, sign, sign, lost) for lost in range(many + 1) for sign in SIGNS]
    return found + [(lost, sign, DARK, lost + 1) for lost in range(many) for sign in SIGNS if sign != DARK]


def miss_states(many, beats):
    """How many beats ago lit signs can have been missed: all tuples of up to one or two of them, ascending."""
    found = [()] + [(ago,) for ago in range(1, beats)]
    if many > 1:
        found = found + [(ago, elder) for ago in range(1, beats) for elder in range(ago + 1, beats)]
    return sorted(found)


def miss_entries(weather):
    """Entries for lit signs seen dark, no more than so many times in so many beats that follow one another."""
    many, beats = weather[1], weather[2]
    states = miss_states(many, beats)
    numbers = {state: number for number, state in enumerate(states)}
    found = []
    for number, state in enumerate(states):
        later = tuple([ago + 1 for ago in state if ago + 1 < beats])
        found.extend([(number, sign, sign, numbers[later]) for sign in SIGNS])
        if len(state) < many:
            missed = numbers[(1,) + later]
            found.extend([(number, sign, DARK, missed) for sign in SIGNS if sign != DARK])
    return found


def take_entries(weather):
    """Entries for one sign that can be seen as another one."""
    return [(0, sign, sign, 0) for sign in SIGNS] + [(0, weather[1], weather[2], 0)]


def always_entries(weather):
    """Entries for one sign that is always seen as another one."""
    return [(0, sign, weather[2] if sign == weather[1] else sign, 0) for sign in SIGNS]


def glow_entries(weather):
    """Entries for dark beats behind lit ones, which can be seen as these."""
    found = [(state, sign, sign, later) for state in range(len(SIGNS)) for later, sign in enumerate(SIGNS)]
    return found + [(state, DARK, sign, 0) for state, sign in enumerate(SIGNS) if sign != DARK]


def late_entries(weather):
    """Entries for signs that are seen one beat later."""
    return [(state, sign, seen, later) for state, seen in enumerate(SIGNS) for later, sign in enumerate(SIGNS)]


ENTRIES = {
    "lose": lose_entries,
    "miss": miss_entries,
    "take": take_entries,
    "always": always_entries,
    "glow": glow_entries,
    "late": late_entries,
}


def is_weather(thing):
    """Whether a thing is a weather."""
    if not is_tuple(thing) or len(thing) == 0 or not isinstance(thing[0], str) or thing[0] not in WEATHER_WORDS:
        return False
    if len(thing) != len(WEATHER_WORDS[thing[0]]) + 1:
        return False
    if thing[0] == "lose":
        return is_from(thing[1], 1, 9)
    if thing[0] == "miss":
        return is_from(thing[1], 1, 2) and is_from(thing[2], 2, 8) and thing[1] < thing[2]
    if thing[0] == "take" or thing[0] == "always":
        return is_lit(thing[1]) and is_sign(thing[2]) and thing[1] != thing[2]
    return True


def checked_weathers(weathers):
    """The weathers that were passed, as a tuple of tuples."""
    if not is_tuple(weathers) or len(weathers) > MOST_WEATHERS:
        raise BadWeather(-1)
    for number, weather in enumerate(weathers):
        if not is_weather(weather):
            raise BadWeather(number)
    return tuple([tuple(weather) for weather in weathers])


def eye_of_one(weather):
    """The eye of one weather."""
    entries = ENTRIES[weather[0]]
    return Eye(entries(weather))


def eye_of(weathers):
    """The eye of some weathers, of which the first is the nearest to the light."""
    checked = checked_weathers(weathers)
    if len(checked) == 0:
        return Eye.fair()
    eye = eye_of_one(checked[0])
    for weather in checked[1:]:
        eye = eye + eye_of_one(weather)
    return eye


def write_weathers(weathers):
    """The lines of some weathers."""
    return write_tuples(checked_weathers(weathers))


def read_weathers(lines):
    """The weathers that lines tell."""
    return checked_weathers(read_tuples(lines, dict(WEATHER_WORDS)))
