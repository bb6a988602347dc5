"""Weathers that can be left out, or change places."""

from falseglim.weathers import checked_weathers, eye_of
from falseglim.within import let_the_same


def left_out(weathers, number):
    """Some weathers without the one with a number."""
    return weathers[:number] + weathers[number + 1:]


def exchanged(weathers, number):
    """Some weathers, the one with a number and the next one having changed places."""
    return weathers[:number] + (weathers[number + 1], weathers[number]) + weathers[number + 2:]


def needless_weathers(weathers):
    """The numbers of the needless ones among some weathers, ascending."""
    checked = checked_weathers(weathers)
    whole = eye_of(checked)
    return tuple([number for number in range(len(checked)) if let_the_same(eye_of(left_out(checked, number)), whole)])


def lean_weathers(weathers):
    """Some weathers without those that are needless in what they have become, from the first one to the last."""
    left = checked_weathers(weathers)
    whole = eye_of(left)
    number = 0
    while number < len(left):
        others = left_out(left, number)
        eye = eye_of(others)
        if let_the_same(eye, whole):
            left = others
            whole = eye
        else:
            number = number + 1
    return left


def exchangeable(weathers):
    """The numbers of those among some weathers that can change places with the next one, ascending."""
    checked = checked_weathers(weathers)
    whole = eye_of(checked)
    return tuple([number for number in range(len(checked) - 1)
                  if let_the_same(eye_of(exchanged(checked, number)), whole)])
