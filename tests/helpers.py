"""What several tests need: errors told as tuples, and things made without the help of the program."""

import itertools
import random

from falseglim.errors import GlimError
from falseglim.eyes import Eye
from falseglim.worlds import World

SIGNS = ".grw"
ODD = (None, True, False, 0, -1, 1.0, "", "g", (), (0,), ("g",), [], {}, (None, None), object())


def error_of(call, *parts, **named):
    """The error that a call raises, as a tuple of its name and what it bears; what the call returns otherwise."""
    try:
        return call(*parts, **named)
    except GlimError as error:
        return (type(error).__name__,) + tuple(vars(error).values())


def rows_to(most, signs=SIGNS):
    """All rows of up to so many signs, the least ones first."""
    for many in range(most + 1):
        for row in itertools.product(signs, repeat=many):
            yield "".join(row)


def rows_of(many, signs=SIGNS):
    return ["".join(row) for row in itertools.product(signs, repeat=many)]


def some_world(seed, many, signs=SIGNS, marks=("", "a", "b")):
    chance = random.Random(seed)
    shows = "".join(chance.choice(signs) for _ in range(many))
    goes = [sorted(chance.sample(range(many), chance.randint(1, min(2, many)))) for _ in range(many)]
    begins = sorted(chance.sample(range(many), chance.randint(1, min(2, many))))
    return World(shows, goes, begins, [chance.choice(marks) for _ in range(many)])


def some_eye(seed, many, more=3):
    chance = random.Random(seed)
    entries = {(state, shown, chance.choice((shown, ".")), chance.randrange(many))
               for state in range(many) for shown in SIGNS}
    entries |= {(chance.randrange(many), chance.choice(SIGNS), chance.choice(SIGNS), chance.randrange(many))
                for _ in range(more)}
    return Eye(sorted(entries))


def seen_as(eye, shown, seen):
    """Whether a row can be seen as another one, by going through all ways of the eye."""
    if len(shown) != len(seen):
        return False
    ways = [0]
    for sign, other in zip(shown, seen):
        ways = [entry[3] for state in ways for entry in eye.entries if entry[:3] == (state, sign, other)]
        ways = sorted(set(ways))
    return bool(ways)


def standings_behind(world, eye, look):
    """All standings to which a look leads, by going through all nights of its length."""
    ways = [(state, 0) for state in world.begins]
    for seen in look:
        ways = {(later, entry[3]) for state, place in ways for entry in eye.entries
                if entry[:3] == (place, world.shows[state], seen) for later in world.goes[state]}
    return tuple(sorted(ways))
