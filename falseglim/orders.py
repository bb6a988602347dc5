"""Orders for a look-out."""

from falseglim.errors import BadOrder, NoLine
from falseglim.forms import is_from, is_integer, is_tuple
from falseglim.lookout import first_situation, situation_behind
from falseglim.signs import are_signs, check_row, is_name
from falseglim.wordlines import read_tuples, write_tuples

MOST_LINES = 20
MOST_SMALL = 9
# What stands behind the first word of a line.
ORDER_WORDS = {
    "wait": ("signs", "small"),
    "count": ("signs", "signs", "small"),
    "pass": ("small",),
    "more": ("small", "line"),
    "last": ("signs", "line"),
    "go": ("line",),
    "name": ("name",),
    "skip": (),
}


def is_part_of_order(thing, kind, many):
    """Whether a thing can stand in a line where a kind is told; there are so many lines."""
    if kind == "signs":
        return are_signs(thing)
    if kind == "name":
        return is_name(thing)
    return is_from(thing, 1, MOST_SMALL) if kind == "small" else is_from(thing, 0, many - 1)


def is_order(thing, many):
    """Whether a thing is a line of orders of so many lines."""
    if not is_tuple(thing) or len(thing) == 0 or not isinstance(thing[0], str) or thing[0] not in ORDER_WORDS:
        return False
    kinds = ORDER_WORDS[thing[0]]
    if len(thing) != len(kinds) + 1:
        return False
    return all([is_part_of_order(part, kind, many) for part, kind in zip(thing[1:], kinds)])


def checked_orders(lines):
    """The lines that were passed, as a tuple of tuples."""
    if not is_tuple(lines) or not 1 <= len(lines) <= MOST_LINES:
        raise BadOrder(-1)
    for number, line in enumerate(lines):
        if not is_order(line, len(lines)):
            raise BadOrder(number)
    return tuple([tuple(line) for line in lines])


class Orders:
    """The lines by which a look-out goes."""

    def __init__(self, lines):
        self.lines = checked_orders(lines)

    def __len__(self):
        return len(self.lines)

    def __getitem__(self, number):
        if not is_integer(number) or not 0 <= number < len(self.lines):
            raise NoLine(number)
        return self.lines[number]

    def __iter__(self):
        return iter(self.lines)

    def __eq__(self, other):
        return isinstance(other, Orders) and self.lines == other.lines

    def said(self, look):
        """The mark said behind a look and the number of beats looked at then, or None."""
        check_row(look)
        situation = first_situation(self.lines)
        beats = 0
        for sign in look:
            if situation[0] < 0:
                break
            situation = situation_behind(self.lines, situation, sign)
            beats = beats + 1
        mark = situation[-1]
        return None if mark == "" else (mark, beats)


def write_orders(orders):
    """The lines of text of orders."""
    return write_tuples(orders.lines)


def read_orders(lines):
    """The orders that lines of text tell."""
    return Orders(read_tuples(lines, dict(ORDER_WORDS)))
