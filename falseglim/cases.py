"""Trees of cases, which show that no choice of things is apart."""

from falseglim.errors import TooMany
from falseglim.forms import is_integer, is_tuple

FEW = "few"
TAKE = "take"
MOST_CASES = 2000


def left_with(number, left, others):
    """Those of the numbers left, without this one, that are apart from it."""
    return [other for other in left if other in others[number]]


def left_without(number, left):
    """The numbers left but this one."""
    return [other for other in left if other != number]


class CaseTrees:
    """Trees in which always the first number left is asked, and the number of their cases so far.

    `others` tells for each number a dict whose keys are those that are apart from it.
    """

    def __init__(self, many, others):
        self.many = many
        self.others = others
        self.cases = 0

    def grown(self, taken, left):
        """The tree of the case in which so many numbers are taken and some are left."""
        self.cases = self.cases + 1
        if self.cases > MOST_CASES:
            raise TooMany("case")
        if taken + len(left) < self.many:
            return (FEW,)
        number = left[0]
        first = self.grown(taken + 1, left_with(number, left, self.others))
        return (TAKE, number, first, self.grown(taken, left_without(number, left)))


def is_right_tree(thing, many, others, taken, left):
    """Whether a thing is a right tree of the case in which so many numbers are taken and some are left."""
    if not is_tuple(thing) or len(thing) == 0 or not isinstance(thing[0], str):
        return False
    if thing[0] == FEW:
        return len(thing) == 1 and taken + len(left) < many
    if thing[0] != TAKE or len(thing) != 4 or not is_integer(thing[1]) or thing[1] not in left:
        return False
    # Each case leaves fewer numbers: however deep a thing is, one never goes deeper than there are numbers.
    if not is_right_tree(thing[2], many, others, taken + 1, left_with(thing[1], left, others)):
        return False
    return is_right_tree(thing[3], many, others, taken, left_without(thing[1], left))
