"""Worlds within one another: for all nights of the one there is a night of the other that is seen and ends alike."""

from falseglim.forms import ascending_integers, is_from, is_tuple
from falseglim.judging import first_told, first_wrong
from falseglim.ordering import ordered

MOST_SITUATIONS = 600


class WorldSituations:
    """Where beats lead from situations of two worlds, come to or not."""

    def __init__(self, first, second):
        self.first = first
        self.second = second
        self.firsts = [(state, second.begins) for state in first.begins]
        self._behind = {}

    def lacks_mark(self, situation):
        """Whether none of the states of the second world has the mark of the state of the first one."""
        state, states = situation
        return not any([self.second.marks[other] == self.first.marks[state] for other in states])

    def led(self, situation):
        """The situations to which a beat leads; the second world may have no state in them."""
        state, states = situation
        sign = self.first.shows[state]
        if (states, sign) not in self._behind:
            self._behind[(states, sign)] = self.second.onward(states, sign)
        return [(later, self._behind[(states, sign)]) for later in self.first.goes[state]]

    def in_order(self):
        """A dict from all situations in which the second world has a state, in order, to the least rows to them."""

        def follow(situation):
            sign = self.first.shows[situation[0]]
            return [((sign,), later) for later in self.led(situation) if later[1]]

        found = ordered(self.firsts, ("",), follow, MOST_SITUATIONS, "situation")
        return {situation: rows[0] for situation, rows in found.items()}

    def breach_in(self, found):
        """The least pair of a row and a mark of the situations found, and of those behind them, that lack their marks.

        It is None if there is no such pair.
        """
        told = [(row, self.first.marks[situation[0]]) for situation, row in found.items()
                if self.lacks_mark(situation)]
        for situation, row in found.items():
            sign = self.first.shows[situation[0]]
            told.extend([(row + sign, self.first.marks[later[0]]) for later in self.led(situation) if not later[1]])
        return min(told, key=lambda pair: (len(pair[0]), pair), default=None)


class WorldWithin:
    """Whether a world is within another one."""

    def __init__(self, first, second):
        self.first = first
        self.second = second
        situations = WorldSituations(first, second)
        found = situations.in_order()
        self.breach = situations.breach_in(found)
        self.table = tuple(found) if self.breach is None else None
        self.rows = tuple(found) if self.breach is None else ()

    def __bool__(self):
        return self.breach is None

    def __len__(self):
        return len(self.rows)

    def __iter__(self):
        return iter(self.rows)


def situation_row(first, second, thing):
    """The row that a thing is: a situation, come to or not, of which nothing is told."""
    if not is_tuple(thing) or len(thing) != 2 or not is_from(thing[0], 0, len(first) - 1):
        return None
    states = ascending_integers(thing[1])
    if not states or states[0] < 0 or states[-1] >= len(second):
        return None
    return ((thing[0], states), None)


def judge_worlds(first, second, table):
    """None if a table shows that the first world is within the second; -1 or the number of a row if it does not."""
    situations = WorldSituations(first, second)
    rows = [situation_row(first, second, thing) for thing in table]
    told = first_told(rows)

    def is_right(situation, _):
        return not situations.lacks_mark(situation) and all([later in told for later in situations.led(situation)])

    return first_wrong(situations.firsts, told, rows, is_right)
