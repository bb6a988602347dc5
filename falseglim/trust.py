"""Trust: whether a mind is ever sure of what is not so."""

from falseglim.forms import is_tuple
from falseglim.judging import first_told, first_wrong
from falseglim.nightbeats import NightBeats, NightGraph


class Trust:
    """Whether a mind can trust a truth: it is misled on none of its nights."""

    def __init__(self, mind, world, eye):
        self.mind = mind
        self.world = world
        self.eye = eye
        graph = NightGraph(mind, world, eye)
        self.breach = breach_of(graph) if graph.misled else None
        self.table = None if graph.misled else graph.pairs
        self.rows = () if graph.misled else graph.pairs

    def __bool__(self):
        return self.breach is None

    def __len__(self):
        return len(self.rows)

    def __iter__(self):
        return iter(self.rows)


def breach_of(graph):
    """The least look behind which a mind is misled, what it is sure of then, and the least standing that is not so."""
    place = graph.places[graph.misled[0]]
    return (graph.misled_look(), graph.nights.sure_at(place), place[0])


def trust_row(nights, thing):
    """The row that a thing is: a place of which nothing is told."""
    place = nights.place_of(thing[0], thing[1]) if is_tuple(thing) and len(thing) == 2 else None
    return None if place is None else (place, None)


def judge_trust(mind, world, eye, table):
    """None if a table shows that a mind can trust a truth; -1 or the number of a row if it does not."""
    nights = NightBeats(mind, world, eye)
    rows = [trust_row(nights, thing) for thing in table]
    told = first_told(rows)

    def is_right(place, _):
        return not nights.is_misled(place) and all([later in told for _, later in nights.true_beats(place)])

    return first_wrong(nights.firsts, told, rows, is_right)
