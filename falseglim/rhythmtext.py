"""Rhythm texts: rounds as they are written."""

from math import lcm

from falseglim.errors import BadText, TooLong
from falseglim.forms import DIGITS
from falseglim.signs import DARK, MOST_BEATS, is_sign

MOST_DEEP = 6
LEAST_TIMES = 2
MOST_TIMES = 24


def read_round(text):
    """The round that a rhythm text stands for."""
    if not isinstance(text, str):
        raise BadText(-1)
    _, beats, row = read_parts(text, 0, 0)
    if beats > MOST_BEATS:
        raise TooLong(beats)
    return row


def kept(beats, row):
    """The row of some beats; one that is too long for a round is never shown, and is not built up."""
    return row if beats <= MOST_BEATS else ""


def together(beats, row, other_beats, other):
    """The beats and the row of two rows shown at the same time, each for so many beats; the first goes ahead."""
    both = lcm(beats, other_beats)
    if both > MOST_BEATS:
        return both, ""
    signs = []
    for beat in range(both):
        sign = row[beat % beats]
        signs.append(other[beat % other_beats] if sign == DARK else sign)
    return both, "".join(signs)


def char_at(text, at):
    """The character with an index, or the empty string behind the end."""
    return text[at:at + 1]


def end_of_run(text, at):
    """The index behind the digits that begin at an index."""
    end = at
    while end < len(text) and text[end] in DIGITS:
        end = end + 1
    return end


def size_of_run(text, at, end):
    """The number that a run of digits tells; of a long one, some number that is too great anywhere."""
    if text[at] == "0":
        raise BadText(at)
    # Three digits are too many already; all of them could be more than Python lets be read.
    return int(text[at:min(end, at + 3)])


def read_parts(text, at, deep):
    """Reads parts up to the end, or to the bracket that closes them: where that is, their beats and their row."""
    at, beats, row = read_part(text, at, deep)
    while char_at(text, at) == "&":
        at, other_beats, other = read_part(text, at + 1, deep)
        beats, row = together(beats, row, other_beats, other)
    last = "" if deep == 0 else ")"
    if char_at(text, at) != last:
        raise BadText(at)
    return at, beats, row


def read_part(text, at, deep):
    """Reads a part: the index behind it, its beats and its row."""
    beats, row = 0, ""
    char = char_at(text, at)
    while is_sign(char) or (char != "" and char in DIGITS):
        at, more, signs = read_item(text, at, deep)
        beats = beats + more
        row = kept(beats, row + signs)
        char = char_at(text, at)
    if beats == 0:
        raise BadText(at)
    if char != "@":
        return at, beats, row
    at, whole = read_whole(text, at + 1, beats)
    return at, whole, row + DARK * (whole - beats)


def read_whole(text, at, beats):
    """Reads the number behind an `@`, in a part that has so many beats: the index behind it, and the number."""
    end = end_of_run(text, at)
    if end == at:
        raise BadText(at)
    whole = size_of_run(text, at, end)
    if not beats <= whole <= MOST_BEATS:
        raise BadText(at)
    return end, whole


def read_item(text, at, deep):
    """Reads an item: the index behind it, its beats and its row."""
    end = end_of_run(text, at)
    char = char_at(text, end)
    if end == at:
        return at + 1, 1, char
    times = size_of_run(text, at, end)
    if not is_sign(char) and char != "(":
        raise BadText(end)
    if not LEAST_TIMES <= times <= MOST_TIMES:
        raise BadText(at)
    if is_sign(char):
        return end + 1, times, char * times
    if deep == MOST_DEEP:
        raise BadText(end)
    closing, beats, row = read_parts(text, end + 1, deep + 1)
    return closing + 1, times * beats, kept(times * beats, row * times)
