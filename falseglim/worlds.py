"""Worlds: what can be shown, beat by beat, and what is so meanwhile."""

from falseglim.errors import BadBegins, BadGoes, BadMarks, BadShows, NoState
from falseglim.forms import ascending_integers, is_integer, is_tuple
from falseglim.signs import check_row, is_mark, wrong_sign

MOST_STATES = 96


def check_shows(shows):
    """Refuses what is no string of 1 to 96 signs."""
    if not isinstance(shows, str) or not 1 <= len(shows) <= MOST_STATES:
        raise BadShows(-1)
    at = wrong_sign(shows)
    if at is not None:
        raise BadShows(at)


def some_states(thing, many):
    """The ascending tuple of at least one of so many states that a thing is, or None."""
    states = ascending_integers(thing)
    if not states or states[0] < 0 or states[-1] >= many:
        return None
    return states


def read_goes(goes, many):
    """The states to which each of so many states goes on, as tuples."""
    if not is_tuple(goes) or len(goes) != many:
        raise BadGoes(-1)
    kept = []
    for number, thing in enumerate(goes):
        states = some_states(thing, many)
        if states is None:
            raise BadGoes(number)
        kept.append(states)
    return tuple(kept)


def read_begins(begins, many):
    """The beginnings among so many states, as a tuple."""
    states = some_states(begins, many)
    if states is None:
        raise BadBegins(begins)
    return states


def read_marks(marks, many):
    """The marks of so many states, as a tuple."""
    if not is_tuple(marks) or len(marks) != many:
        raise BadMarks(-1)
    for number, mark in enumerate(marks):
        if not is_mark(mark):
            raise BadMarks(number)
    return tuple(marks)


def come_to(firsts, goes):
    """All things that are come to from the first ones, ascending; `goes` tells where each thing leads."""
    found = {thing: True for thing in firsts}
    waiting = list(firsts)
    while waiting:
        thing = waiting.pop()
        for later in goes[thing]:
            if later not in found:
                found[later] = True
                waiting.append(later)
    return tuple(sorted(found))


class World:
    """States, each with a sign, the states to which it goes on, and a mark."""

    def __init__(self, shows, goes, begins, marks):
        check_shows(shows)
        many = len(shows)
        self.shows = shows
        self.goes = read_goes(goes, many)
        self.begins = read_begins(begins, many)
        self.marks = read_marks(marks, many)
        self.rows = tuple([(shows[state], self.goes[state], self.marks[state]) for state in range(many)])
        self._reached = come_to(self.begins, self.goes)
        self._steady = all([self.marks[later] == self.marks[state]
                            for state in self._reached for later in self.goes[state]])

    def __len__(self):
        return len(self.rows)

    def __getitem__(self, state):
        if not is_integer(state) or not 0 <= state < len(self.rows):
            raise NoState(state)
        return self.rows[state]

    def __iter__(self):
        return iter(self.rows)

    def __eq__(self, other):
        return (isinstance(other, World) and self.shows == other.shows and self.goes == other.goes
                and self.begins == other.begins and self.marks == other.marks)

    @property
    def reached(self):
        """The states that are come to, ascending."""
        return self._reached

    @property
    def is_steady(self):
        """Whether each state that is come to goes on only to states with its own mark."""
        return self._steady

    def ends(self, row):
        """The states in which nights with this row end, ascending."""
        check_row(row)
        states = self.begins
        for sign in row:
            states = self.onward(states, sign)
        return states

    def onward(self, states, sign):
        """The states to which those of some states that show a sign go on, ascending."""
        return tuple(sorted({later for state in states if self.shows[state] == sign for later in self.goes[state]}))
