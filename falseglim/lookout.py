"""A look-out at work: the situations of orders, beat by beat.

A situation ahead of a beat is a tuple of the line that looks at the beat; for wait and count lines how many beats in
a row showed what is waited for, for pass lines how many beats are still to come; for count lines 1 if the beat before
was one of its signs in it, otherwise 0; the count; the last beat, empty if there was none; and the mark that is said.
Where the line is -1, no beat is looked at any more: the mark is said, or nothing, if it is empty.
"""

MOST_COUNT = 9
BEAT_WORDS = ("wait", "count", "pass")


def ended(mark):
    """The situation in which a mark has been said, or, for the empty one, nothing can be said any more."""
    return (-1, 0, 0, 0, "", mark)


def begun(lines, line, count, last):
    """The situation as a line begins that takes beats."""
    order = lines[line]
    if order[0] == "pass":
        return (line, order[1], 0, count, last, "")
    return (line, 0, 0, 0 if order[0] == "count" else count, last, "")


def line_behind(lines, line, count, last):
    """The line with which one goes on behind a line that takes no beats."""
    order = lines[line]
    if order[0] == "go":
        return order[1]
    if order[0] == "more" and count >= order[1]:
        return order[2]
    if order[0] == "last" and last != "" and last in order[1]:
        return order[2]
    return line + 1


def settled(lines, line, count, last):
    """The situation to which one comes from a line on without looking at a beat."""
    passed = {}
    while line < len(lines) and line not in passed:
        if lines[line][0] == "name":
            return ended(lines[line][1])
        if lines[line][0] in BEAT_WORDS:
            return begun(lines, line, count, last)
        passed[line] = True
        line = line_behind(lines, line, count, last)
    return ended("")


def first_situation(lines):
    """The situation ahead of the first beat."""
    return settled(lines, 0, 0, "")


def situation_behind(lines, situation, sign):
    """The situation behind a beat."""
    line, number, before, count = situation[:4]
    if line < 0:
        return situation
    order = lines[line]
    if order[0] == "pass":
        if number == 1:
            return settled(lines, line + 1, count, sign)
        return (line, number - 1, 0, count, sign, "")
    if order[0] == "count":
        counted = 1 if sign in order[1] else 0
        if counted > before:
            count = min(count + 1, MOST_COUNT)
        before = counted
    signs, times = order[-2], order[-1]
    number = number + 1 if sign in signs else 0
    if number == times:
        return settled(lines, line + 1, count, sign)
    return (line, number, before, count, sign, "")
