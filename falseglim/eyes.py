"""Eyes: what can be seen of what is shown."""

from falseglim.errors import BadEntry, Blind, NoState, TooMany
from falseglim.forms import is_integer, is_tuple
from falseglim.joining import MOST_EYE_STATES, entries_by_shown, joined_entries
from falseglim.signs import SIGNS, check_glass, check_row, check_sign, is_sign, through_glass

MOST_ENTRIES = 240


def is_eye_state(thing):
    """Whether a thing can be the number of a state of an eye."""
    return is_integer(thing) and 0 <= thing < MOST_EYE_STATES


def is_entry(thing):
    """Whether a thing has the form of an entry."""
    return (is_tuple(thing) and len(thing) == 4 and is_eye_state(thing[0]) and is_sign(thing[1])
            and is_sign(thing[2]) and is_eye_state(thing[3]))


def read_entries(entries):
    """The entries that were passed, as an ascending tuple of tuples."""
    if not is_tuple(entries):
        raise BadEntry(-1)
    found = {}
    for number, entry in enumerate(entries):
        if not is_entry(entry) or tuple(entry) in found:
            raise BadEntry(number)
        found[tuple(entry)] = True
    if len(found) > MOST_ENTRIES:
        raise TooMany("entry")
    return tuple(sorted(found))


def nexts_of(entries):
    """For each state, sign shown and sign seen of some entries, the ascending list of the next states."""
    found = {}
    for state, shown, seen, later in entries:
        found.setdefault((state, shown, seen), []).append(later)
    return found


class Eye:
    """Entries of a state, a sign shown, a sign seen and the next state."""

    def __init__(self, entries):
        self.entries = read_entries(entries)
        self._states = tuple(sorted(set([0] + [state for entry in self.entries for state in (entry[0], entry[3])])))
        self._options = entries_by_shown(self.entries)
        self._nexts = nexts_of(self.entries)
        for state in self._states:
            for sign in SIGNS:
                if (state, sign) not in self._options:
                    raise Blind(state, sign)

    def __len__(self):
        return len(self.entries)

    def __iter__(self):
        return iter(self.entries)

    def __eq__(self, other):
        return isinstance(other, Eye) and self.entries == other.entries

    def __add__(self, other):
        if not isinstance(other, Eye):
            return NotImplemented
        return Eye(joined_entries(self.entries, other.entries))

    def __call__(self, shown, seen):
        check_row(shown)
        check_row(seen)
        if len(shown) != len(seen):
            return False
        states = (0,)
        for sign, other in zip(shown, seen):
            states = self.onward(states, sign, other)
        return len(states) > 0

    @property
    def states(self):
        """The states of the eye, ascending."""
        return self._states

    def options(self, state, sign):
        """What can be seen of a sign in a state, and the state behind: pairs, ascending."""
        if not is_integer(state) or state not in self._states:
            raise NoState(state)
        check_sign(sign)
        return tuple(self._options[(state, sign)])

    def onward(self, states, shown, seen):
        """All states behind some states when a sign is shown and seen as another, ascending."""
        return tuple(sorted({later for state in states for later in self._nexts.get((state, shown, seen), ())}))

    @classmethod
    def fair(cls):
        """The clear eye."""
        return cls([(0, sign, sign, 0) for sign in SIGNS])

    @classmethod
    def through(cls, glass):
        """The eye that sees each sign as a glass tells."""
        check_glass(glass)
        return cls([(0, sign, through_glass(glass, sign), 0) for sign in SIGNS])
