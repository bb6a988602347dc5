"""Hindsight: what was so at any moment is known behind so many further beats."""

from falseglim.forms import is_natural, is_tuple
from falseglim.judging import first_told, first_wrong
from falseglim.loops import bounded_ranks, least_looks, least_loop, led_from, looped
from falseglim.standingpairs import PairGraph, StandingPairs, pair_up


class Hindsight:
    """Whether a sight is told back."""

    def __init__(self, world, eye):
        self.world = world
        self.eye = eye
        graph = PairGraph(world, eye)
        ranks = ranks_of(graph)
        endless = [number for number in graph.parted if number not in ranks]
        self.breach = breach_of(world, graph, endless[0]) if endless else None
        self.delay = None if endless else max([ranks[number] + 1 for number in graph.parted], default=0)
        self.table = None if endless else table_of(graph, ranks)
        self.rows = () if endless else self.table

    def __bool__(self):
        return self.breach is None

    def __len__(self):
        return len(self.rows)

    def __iter__(self):
        return iter(self.rows)


def ranks_of(graph):
    """The ranks of those pairs that have one."""
    # Each beat takes two steps: from a pair to a group, and from this to a pair.
    ranks = bounded_ranks(graph.leads)
    return {number: ranks[number] // 2 for number in range(len(graph.pairs)) if number in ranks}


def table_of(graph, ranks):
    """The triples of all pairs in order, with the ranks of those to which parted pairs lead."""
    told = led_from(graph.parted, graph.leads)
    return tuple([pair + (ranks[number] if number in told else None,) for number, pair in enumerate(graph.pairs)])


def breach_of(world, graph, number):
    """What is told of a parted pair without a rank."""
    first, second = graph.pairs[number]
    circles = looped(graph.leads)
    ways = least_looks(number, graph.leads)
    ends = [later for later in ways if later in circles and later < len(graph.pairs)]
    way = ways[ends[0]]
    # Those with one least way stand in the order of the table; but the loop is that of the first one as a pair.
    nearest = min([later for later in ends if ways[later] == way], key=lambda later: graph.pairs[later])
    marks = (world.marks[first[0]], world.marks[second[0]])
    return (marks, graph.looks[number], way, least_loop(nearest, graph.leads))


def hindsight_row(sight, thing):
    """The row that a thing is: a pair of standings, the lesser one first, and a rank or None."""
    if not is_tuple(thing) or len(thing) != 3:
        return None
    first, second, rank = sight.standing_of(thing[0]), sight.standing_of(thing[1]), thing[2]
    if first is None or second is None or first > second:
        return None
    if rank is not None and not is_natural(rank):
        return None
    return ((first, second), rank)


def greatest_told(told, group):
    """Whether all pairs of a group are told of, and the greatest of their ranks, None if one of them has none."""
    ranks = []
    for first in group[0]:
        for second in group[1]:
            pair = pair_up(first, second)
            if pair not in told:
                return False, None
            ranks.append(told[pair])
    return True, None if None in ranks else max(ranks)


def judge_hindsight(world, eye, table):
    """None if a table shows that a sight is told back; -1 or the number of a row if it does not."""
    pairs = StandingPairs(world, eye)
    rows = [hindsight_row(pairs.sight, thing) for thing in table]
    told = first_told(rows)
    known = {}

    def is_right(pair, rank):
        if rank is None and pairs.is_parted(pair):
            return False
        for _, number in pairs.led_groups(pair):
            if number not in known:
                known[number] = greatest_told(told, pairs.groups[number])
            is_told, greatest = known[number]
            if not is_told or (rank is not None and (greatest is None or greatest >= rank)):
                return False
        return True

    return first_wrong(pairs.firsts, told, rows, is_right)
