"""Things that lead to one another: how long one can go on, and which of them come again.

The things are numbers. `leads` is a dict from each of them to where it leads: a list of pairs of a tuple with one
letter and a thing.
"""

from falseglim.ordering import ordered


def leads_among(leads, kept):
    """The leads of some things alone, and to them alone; `kept` is a dict with these things as keys."""
    return {thing: [pair for pair in leads[thing] if pair[1] in kept] for thing in kept}


def turned_leads(leads):
    """The same leads the other way round."""
    found = {thing: [] for thing in leads}
    for thing in leads:
        for letters, later in leads[thing]:
            found[later].append((letters, thing))
    return found


def bounded_ranks(leads):
    """For each thing the greatest number of steps by which one can go on from it; without a bound it is left out."""
    elders = turned_leads(leads)
    left = {thing: len(leads[thing]) for thing in leads}
    waiting = [thing for thing in leads if left[thing] == 0]
    ranks = {}
    while waiting:
        thing = waiting.pop()
        ranks[thing] = max([ranks[later] + 1 for _, later in leads[thing]], default=0)
        for _, elder in elders[thing]:
            left[elder] = left[elder] - 1
            if left[elder] == 0:
                waiting.append(elder)
    return ranks


def led_from(starts, leads):
    """A dict whose keys are all things to which some things lead, themselves included."""
    found = {thing: True for thing in starts}
    waiting = list(starts)
    while waiting:
        thing = waiting.pop()
        for _, later in leads[thing]:
            if later not in found:
                found[later] = True
                waiting.append(later)
    return found


def deep_first(start, leads, places):
    """The things not gone to so far to which one leads, each behind those to which one goes on from it.

    `places` tells for each thing gone to how many of its leads have been looked at.
    """
    ended = []
    path = [start]
    places[start] = 0
    while path:
        thing = path[-1]
        at = places[thing]
        if at == len(leads[thing]):
            ended.append(path.pop())
            continue
        places[thing] = at + 1
        later = leads[thing][at][1]
        if later not in places:
            places[later] = 0
            path.append(later)
    return ended


def looped(leads):
    """A dict whose keys are the things from which one can come back to them."""
    ended = []
    places = {}
    for thing in leads:
        if thing not in places:
            ended.extend(deep_first(thing, leads, places))
    elders = turned_leads(leads)
    passed = {}
    found = {}
    # What leads to a thing, and does not belong to one that ended later, is led to by this thing, too.
    for thing in ended[::-1]:
        if thing in passed:
            continue
        circle = deep_first(thing, elders, passed)
        if len(circle) > 1 or thing in [later for _, later in leads[thing]]:
            found.update({one: True for one in circle})
    return found


def least_looks(start, leads):
    """A dict from all things to which one leads, in order, to the least looks that lead to them."""
    found = ordered([start], ("",), lambda thing: leads[thing], len(leads), "")
    return {thing: rows[0] for thing, rows in found.items()}


def least_loop(start, leads):
    """The least look of at least one beat that leads from a thing back to it."""
    # The thing goes by another number where one begins, so that it is not there already when one comes back to it.
    ahead = -1
    found = ordered([ahead], ("",), lambda thing: leads[start if thing == ahead else thing], len(leads) + 1, "")
    return found[start][0]
