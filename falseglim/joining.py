"""The entries of two eyes of which the second looks at what the first lets be seen."""

from falseglim.errors import TooMany

MOST_EYE_STATES = 30


def entries_by_shown(entries):
    """For each state and sign shown, the ascending list of the pairs of a sign seen and a next state."""
    found = {}
    for state, shown, seen, later in entries:
        found.setdefault((state, shown), []).append((seen, later))
    return found


def entries_by_state(entries):
    """For each state, the list of the triples of a sign shown, a sign seen and a next state."""
    found = {}
    for state, shown, seen, later in entries:
        found.setdefault(state, []).append((shown, seen, later))
    return found


def joined_beats(first, second):
    """For each pair of states that is come to, the triples of signs shown and seen, and the next pair."""
    nears = entries_by_state(first)
    fars = entries_by_shown(second)
    found = {(0, 0): True}
    waiting = [(0, 0)]
    beats = {}
    while waiting:
        if len(found) > MOST_EYE_STATES:
            raise TooMany("state")
        near, far = waiting.pop()
        led = [(shown, seen, (near_next, far_next))
               for shown, between, near_next in nears[near]
               for seen, far_next in fars[(far, between)]]
        beats[(near, far)] = led
        for beat in led:
            if beat[2] not in found:
                found[beat[2]] = True
                waiting.append(beat[2])
    return beats


def joined_entries(first, second):
    """The entries of the joined eye; its states are numbered in the ascending order of the pairs."""
    beats = joined_beats(first, second)
    numbers = {pair: number for number, pair in enumerate(sorted(beats))}
    return sorted({(numbers[pair], shown, seen, numbers[later])
                   for pair in beats for shown, seen, later in beats[pair]})
