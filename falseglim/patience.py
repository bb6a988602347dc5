"""Patience: how long a mind must have been sure before it says so."""

from falseglim.errors import BadPatience
from falseglim.forms import is_natural, is_tuple
from falseglim.judging import first_told, first_wrong
from falseglim.loops import bounded_ranks, leads_among, least_looks, least_loop, led_from, looped, turned_leads
from falseglim.nightbeats import NightBeats, NightGraph


def check_patience(patience):
    """Refuses what is no patience."""
    if not is_natural(patience):
        raise BadPatience(patience)


def steady_leads(graph):
    """The leads of the pairs at which the mind is sure, and only to those at which it is sure of the same mark."""
    marks = [graph.nights.sure_at(place) for place in graph.places]
    sure = {number: True for number, mark in enumerate(marks) if mark is not None}
    leads = leads_among(graph.all_leads(), sure)
    return {number: [pair for pair in leads[number] if marks[pair[1]] == marks[number]] for number in sure}


class Patience:
    """Whether some patience is enough for a mind never to say what is not so."""

    def __init__(self, mind, world, eye):
        self.mind = mind
        self.world = world
        self.eye = eye
        graph = NightGraph(mind, world, eye)
        steady = steady_leads(graph)
        elders = turned_leads(steady)
        ages = bounded_ranks(elders)
        is_enough = all([number in ages for number in graph.misled])
        self.least = max([ages[number] + 1 for number in graph.misled], default=0) if is_enough else None
        self.undoing = undoing_of(graph, steady, self.least) if self.least else None
        self.breach = None if is_enough else breach_of(graph, steady, elders)
        self.table = table_of(graph, steady, ages) if is_enough else None
        self.rows = self.table if is_enough else ()

    def __bool__(self):
        return self.breach is None

    def __len__(self):
        return len(self.rows)

    def __iter__(self):
        return iter(self.rows)


def table_of(graph, steady, ages):
    """The triples of all pairs in order, with their ages."""
    told = {number: ages[number] + 1 if number in ages else None for number in steady}
    return tuple([pair + (told.get(number, 0),) for number, pair in enumerate(graph.pairs)])


def undoing_of(graph, steady, least):
    """The least look at whose end a mind with a patience less by one than the least is misled by saying."""
    # From the pairs that lead to misled ones all ways end: the longest of them are those of such a mind.
    doomed = led_from(graph.misled, turned_leads(steady))
    ranks = bounded_ranks(leads_among(steady, doomed))
    level = [number for number in sorted(doomed) if ranks[number] == least - 1]
    look = graph.looks[level[0]]
    level = [number for number in level if graph.looks[number] == look]
    for left in range(least - 2, -1, -1):
        led = [(letters[0], later) for number in level for letters, later in steady[number]
               if later in doomed and ranks[later] == left]
        sign = min([letter for letter, _ in led])
        level = sorted({later for letter, later in led if letter == sign})
        look = look + sign
    return look


def breach_of(graph, steady, elders):
    """What is told of the first pair in a bad steady loop."""
    doomed = led_from(graph.misled, elders)
    circles = looped(steady)
    number = min([number for number in circles if number in doomed])
    ways = least_looks(number, steady)
    way = [look for later, look in ways.items() if later in graph.misled][0]
    return (graph.looks[number], least_loop(number, steady), way)


def patience_row(nights, thing):
    """The row that a thing is: a place and an age or None."""
    if not is_tuple(thing) or len(thing) != 3:
        return None
    if thing[2] is not None and not is_natural(thing[2]):
        return None
    place = nights.place_of(thing[0], thing[1])
    return None if place is None else (place, thing[2])


def is_aged(age, later):
    """Whether a pair can have an age one beat behind another one with an age, the mind being sure all the time."""
    if later is None:
        return True
    return age is not None and later > age


def judge_patience(mind, world, eye, patience, table):
    """None if a table shows that a patience is enough; -1 or the number of a row if it does not."""
    check_patience(patience)
    nights = NightBeats(mind, world, eye)
    rows = [patience_row(nights, thing) for thing in table]
    told = first_told(rows)

    def is_right(place, age):
        sure = nights.sure_at(place)
        if (sure is None) != (age == 0):
            return False
        if nights.is_misled(place) and (age is None or age > patience):
            return False
        laters = [later for _, later in nights.true_beats(place)]
        if not all([later in told for later in laters]):
            return False
        return sure is None or all([is_aged(age, told[later]) for later in laters if nights.sure_at(later) == sure])

    return first_wrong(nights.firsts, told, rows, is_right)
