"""What several tests need: errors told as tuples, and things made without the help of the program."""

import heapq
import itertools
import random

from falseglim.errors import GlimError
from falseglim.eyes import Eye
from falseglim.minds import Mind
from falseglim.worlds import World

SIGNS = ".grw"
ODD = (None, True, False, 0, -1, 1.0, "", "g", (), (0,), ("g",), [], {}, (None, None), object())


def error_of(call, *parts, **named):
    """The error that a call raises, as a tuple of its name and what it bears; what the call returns otherwise."""
    try:
        return call(*parts, **named)
    except GlimError as error:
        return (type(error).__name__,) + tuple(vars(error).values())


def rows_to(most, signs=SIGNS):
    """All rows of up to so many signs, the least ones first."""
    for many in range(most + 1):
        for row in itertools.product(signs, repeat=many):
            yield "".join(row)


def rows_of(many, signs=SIGNS):
    return ["".join(row) for row in itertools.product(signs, repeat=many)]


def some_world(seed, many, signs=SIGNS, marks=("", "a", "b")):
    chance = random.Random(seed)
    shows = "".join(chance.choice(signs) for _ in range(many))
    goes = [sorted(chance.sample(range(many), chance.randint(1, min(2, many)))) for _ in range(many)]
    begins = sorted(chance.sample(range(many), chance.randint(1, min(2, many))))
    return World(shows, goes, begins, [chance.choice(marks) for _ in range(many)])


def some_eye(seed, many, more=3):
    chance = random.Random(seed)
    entries = {(state, shown, chance.choice((shown, ".")), chance.randrange(many))
               for state in range(many) for shown in SIGNS}
    entries |= {(chance.randrange(many), chance.choice(SIGNS), chance.choice(SIGNS), chance.randrange(many))
                for _ in range(more)}
    return Eye(sorted(entries))


def seen_as(eye, shown, seen):
    """Whether a row can be seen as another one, by going through all ways of the eye."""
    if len(shown) != len(seen):
        return False
    ways = [0]
    for sign, other in zip(shown, seen):
        ways = [entry[3] for state in ways for entry in eye.entries if entry[:3] == (state, sign, other)]
        ways = sorted(set(ways))
    return bool(ways)


def standings_behind(world, eye, look):
    """All standings to which a look leads, by going through all nights of its length."""
    ways = [(state, 0) for state in world.begins]
    for seen in look:
        ways = {(later, entry[3]) for state, place in ways for entry in eye.entries
                if entry[:3] == (place, world.shows[state], seen) for later in world.goes[state]}
    return tuple(sorted(ways))


def least_ways(starts, follow):
    """A dict from all things that are come to, in order, to the least looks that lead to them.

    `follow` tells for a thing the pairs of a sign and a thing to which it leads.
    """
    queue = [(0, "", thing) for thing in sorted(set(starts))]
    found = {}
    while queue:
        many, look, thing = heapq.heappop(queue)
        if thing not in found:
            found[thing] = look
            for sign, later in follow(thing):
                heapq.heappush(queue, (many + 1, look + sign, later))
    return found


def least_back(thing, follow):
    """The least look of at least one beat that leads from a thing back to it, or None."""
    ways = least_ways([("ahead",)], lambda place: [
        (sign, ("behind", later)) for sign, later in follow(thing if place == ("ahead",) else place[1])])
    return ways.get(("behind", thing))


def greatest_rank(thing, follow, most):
    """The greatest number of steps by which one can go on from a thing; None if it is more than `most`."""
    level = {thing}
    for many in range(most + 1):
        level = {later for one in level for _, later in follow(one)}
        if not level:
            return many
    return None


def sight_step(world, eye, standing):
    """The pairs of a sign seen and a standing to which a beat leads."""
    state, place = standing
    return sorted({(entry[2], (later, entry[3])) for entry in eye.entries if entry[:2] == (place, world.shows[state])
                   for later in world.goes[state]})


def knowledge_step(mind, knowledge, sign):
    return tuple(sorted({later for standing in knowledge for seen, later in sight_step(mind.world, mind.eye, standing)
                         if seen == sign}))


def night_step(mind, world, eye, pair):
    """The pairs of a sign and a pair of a true standing and a knowledge to which true beats lead."""
    standing, knowledge = pair
    return [(sign, (later, knowledge_step(mind, knowledge, sign))) for sign, later in sight_step(world, eye, standing)]


def night_pairs(mind, world, eye):
    """All pairs that are come to, in order, with their least looks, and where true beats lead from them."""
    known = {}

    def follow(pair):
        if pair not in known:
            known[pair] = night_step(mind, world, eye, pair)
        return known[pair]

    opening = tuple((state, 0) for state in mind.world.begins)
    return least_ways([((state, 0), opening) for state in world.begins], follow), follow


def sure_of(mind, knowledge):
    marks = {mind.world.marks[state] for state, _ in knowledge}
    return marks.pop() if len(marks) == 1 and "" not in marks else None


def is_misled(mind, world, pair):
    sure = sure_of(mind, pair[1])
    return sure is not None and sure != world.marks[pair[0][0]]


def listed(thing):
    """A thing with lists in the place of all of its tuples."""
    return [listed(part) for part in thing] if isinstance(thing, tuple) else thing


def some_truth(seed, many=3, places=2, more=2):
    """A mind and a truth: worlds that are alike, so that the mind is not amiss at once."""
    chance = random.Random(seed)
    world = some_world(seed, many, ".gw")
    eye = some_eye(seed, places, more=more)
    marks = list(world.marks)
    marks[chance.randrange(many)] = chance.choice(("", "a", "b"))
    goes = list(world.goes)
    goes[chance.randrange(many)] = (chance.randrange(many),)
    truth = World(world.shows, goes, world.begins, marks)
    return Mind(world, eye), truth, some_eye(seed, places, more=more - 1)


def many_nights(length, others, mark="b"):
    """A mind that is sure of a at once, and a truth with so many states: length times others pairs in all."""
    chain = World("w" * length, [(state + 1,) for state in range(length - 1)] + [(length - 1,)], (0,), ("a",) * length)
    free = World("w" * others, [tuple(range(others))] * others, tuple(range(others)), (mark,) * others)
    return Mind(chain, Eye.fair()), free, Eye.fair()


def odd_rows(standing, knowledge):
    """Things that are no pair of a true standing and a knowledge, if the standing has more than one digit less."""
    return ODD + ((standing,), (standing, knowledge, None, None), (knowledge, standing), (standing, standing),
                  (standing, (standing, standing)), (standing, knowledge + ((99, 0),)), ((99, 0), knowledge),
                  ((0, 30), knowledge), ((-1, 0), knowledge), ((True, 0), knowledge), ((0, False), knowledge),
                  (standing, ((True, 0),)), (standing, ((0, 29),)), (standing, None), (None, knowledge),
                  (standing, "g"), {standing: knowledge}, (standing, {}), ((0, 0, 0), knowledge), ((0.0, 0), knowledge))
