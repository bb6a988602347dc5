"""Eyes within one another: whatever a row can be seen as through the one, it can be seen as through the other."""

from falseglim.forms import ascending_integers, is_integer, is_tuple
from falseglim.joining import entries_by_state
from falseglim.ordering import lengthened, ordered

MOST_SITUATIONS = 600


def situations_behind(entries, other, situation):
    """Where a situation leads: triples of a sign shown, a sign seen and a situation, some without other states.

    `entries` are those of the first eye, by states; `other` is the other eye.
    """
    state, states = situation
    behind = {}
    led = []
    for shown, seen, later in entries[state]:
        if (shown, seen) not in behind:
            behind[(shown, seen)] = other.onward(states, shown, seen)
        led.append((shown, seen, (later, behind[(shown, seen)])))
    return led


class Within:
    """Whether an eye is within another one."""

    def __init__(self, first, second):
        self.first = first
        self.second = second
        entries = entries_by_state(first.entries)
        found = self._find_situations(entries)
        self.breach = self._find_breach(entries, found)
        self.table = tuple(found) if self.breach is None else None
        self.rows = tuple(found) if self.breach is None else ()

    def __bool__(self):
        return self.breach is None

    def __len__(self):
        return len(self.rows)

    def __iter__(self):
        return iter(self.rows)

    def _find_situations(self, entries):
        def follow(situation):
            return [((shown, seen), later) for shown, seen, later in situations_behind(entries, self.second, situation)
                    if later[1]]

        return ordered([(0, (0,))], ("", ""), follow, MOST_SITUATIONS, "situation")

    def _find_breach(self, entries, found):
        breaches = [lengthened(rows, (shown, seen)) for situation, rows in found.items()
                    for shown, seen, later in situations_behind(entries, self.second, situation) if not later[1]]
        return min(breaches, key=lambda rows: (len(rows[0]), rows), default=None)


def situation_of(first, second, thing):
    """The situation that a thing is, come to or not, as a tuple; None if it does not have this form."""
    if not is_tuple(thing) or len(thing) != 2 or not is_integer(thing[0]) or thing[0] not in first.states:
        return None
    states = ascending_integers(thing[1])
    if not states or not all([state in second.states for state in states]):
        return None
    return (thing[0], states)


def judge_within(first, second, table):
    """None if a table shows that the first eye is within the second; -1 or the number of a row if it does not."""
    entries = entries_by_state(first.entries)
    rows = [situation_of(first, second, thing) for thing in table]
    known = {row: True for row in rows if row is not None}
    if (0, (0,)) not in known:
        return -1
    for number, row in enumerate(rows):
        if row is None:
            return number
        if not all([later in known for _, _, later in situations_behind(entries, second, row)]):
            return number
    return None


def let_the_same(first, second):
    """Whether two eyes let the same."""
    forth = Within(first, second)
    back = Within(second, first)
    return bool(forth) and bool(back)
