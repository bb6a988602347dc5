"""Heeding: whether a mind comes to see that some marks alone can be so, wherever one of them is so long enough."""

from falseglim.errors import BadMarks
from falseglim.forms import is_natural, is_tuple
from falseglim.judging import first_told, first_wrong
from falseglim.loops import bounded_ranks, leads_among, least_loop, looped
from falseglim.nightbeats import NightBeats, NightGraph
from falseglim.signs import is_name


def checked_marks(marks):
    """The ascending tuple of at least one mark, none of them empty, that a thing is."""
    if not is_tuple(marks) or len(marks) == 0 or not all([is_name(mark) for mark in marks]):
        raise BadMarks(-1)
    if not all([marks[at] < marks[at + 1] for at in range(len(marks) - 1)]):
        raise BadMarks(-1)
    return tuple(marks)


def is_unheeded(nights, marks, place):
    """Whether the true mark is among some marks, and some that the mind holds possible are not."""
    return nights.true_mark(place) in marks and not all([mark in marks for mark in nights.marks_at(place)])


class Heeding:
    """Whether a mind heeds some marks: there is no loop of unheeded pairs."""

    def __init__(self, mind, world, eye, marks):
        self.marks = checked_marks(marks)
        self.mind = mind
        self.world = world
        self.eye = eye
        graph = NightGraph(mind, world, eye)
        unheeded = {number: True for number, place in enumerate(graph.places)
                    if is_unheeded(graph.nights, self.marks, place)}
        leads = leads_among(graph.all_leads(), unheeded)
        circles = looped(leads)
        self.breach = breach_of(graph, leads, min(list(circles))) if circles else None
        self.table = None if circles else table_of(graph, leads)
        self.rows = () if circles else self.table
        self.delay = None if circles else max([rank for _, _, rank in self.rows])

    def __bool__(self):
        return self.breach is None

    def __len__(self):
        return len(self.rows)

    def __iter__(self):
        return iter(self.rows)


def table_of(graph, leads):
    """The triples of all pairs in order, with their ranks; `leads` are those of the unheeded ones."""
    ranks = bounded_ranks(leads)
    return tuple([pair + (ranks[number] + 1 if number in ranks else 0,) for number, pair in enumerate(graph.pairs)])


def breach_of(graph, leads, number):
    """The least look to an unheeded pair from which a loop leads back to it, and the least such loop."""
    return (graph.looks[number], least_loop(number, leads))


def heeding_row(nights, thing):
    """The row that a thing is: a place and a rank."""
    if not is_tuple(thing) or len(thing) != 3 or not is_natural(thing[2]):
        return None
    place = nights.place_of(thing[0], thing[1])
    return None if place is None else (place, thing[2])


def judge_heeding(mind, world, eye, marks, table):
    """None if a table shows that a mind heeds some marks; -1 or the number of a row if it does not."""
    kept = checked_marks(marks)
    nights = NightBeats(mind, world, eye)
    rows = [heeding_row(nights, thing) for thing in table]
    told = first_told(rows)

    def is_right(place, rank):
        laters = [later for _, later in nights.true_beats(place)]
        if not all([later in told for later in laters]):
            return False
        if not is_unheeded(nights, kept, place):
            return True
        return rank >= 1 and all([told[later] < rank for later in laters if is_unheeded(nights, kept, later)])

    return first_wrong(nights.firsts, told, rows, is_right)
