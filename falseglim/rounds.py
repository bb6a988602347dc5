"""Rounds: what they show for ever, and how they lie to one another."""

from math import lcm

from falseglim.errors import BadBeats, TooLong
from falseglim.forms import is_integer
from falseglim.rhythmtext import together
from falseglim.signs import MOST_BEATS, check_round


def check_rounds(first, second):
    """Refuses the first of two things that is no round."""
    check_round(first)
    check_round(second)


def turned_row(row, beats):
    """A round as it goes on behind so many beats."""
    at = beats % len(row)
    return row[at:] + row[:at]


def shortest_row(row):
    """The shortest round that shows the same."""
    size = 1
    while row[:size] * (len(row) // size) != row:
        size = size + 1
    return row[:size]


def least_round(row):
    """The shortest round that is alike to a round."""
    check_round(row)
    return shortest_row(row)


def rhythm(row):
    """The first, as strings, of all turns of the least round of a round."""
    check_round(row)
    least = shortest_row(row)
    return min([turned_row(least, beats) for beats in range(len(least))])


def turned(row, beats):
    """A round turned by an integer from 0."""
    check_round(row)
    if not is_integer(beats) or beats < 0:
        raise BadBeats(beats)
    return turned_row(row, beats)


def alike(first, second):
    """Whether two rounds show the same at all beats."""
    check_rounds(first, second)
    return shortest_row(first) == shortest_row(second)


def moments(first, second):
    """The moments of the first round in the second one, ascending."""
    check_rounds(first, second)
    least, other = shortest_row(first), shortest_row(second)
    return tuple([beats for beats in range(len(other)) if turned_row(other, beats) == least])


def parting(first, second):
    """The first beat at which two rounds show different signs, or None."""
    check_rounds(first, second)
    for beat in range(lcm(len(first), len(second))):
        if first[beat % len(first)] != second[beat % len(second)]:
            return beat
    return None


def laid_over(first, second):
    """The round that shows the second one where the first one is dark."""
    check_rounds(first, second)
    beats, row = together(len(first), first, len(second), second)
    if beats > MOST_BEATS:
        raise TooLong(beats)
    return row
