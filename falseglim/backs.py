"""What can have been shown when a look was seen."""

from falseglim.errors import TooLong, TooMany
from falseglim.signs import SIGNS, check_row

MOST_LOOK = 24
MOST_SETS = 400


def all_layers(eye, look):
    """For each beat of a look a dict: where each set of states leads by each sign that can have been shown then."""
    level = [(0,)]
    layers = []
    for seen in look:
        layer = {}
        later = {}
        for states in level:
            ways = {}
            for shown in SIGNS:
                behind = eye.onward(states, shown, seen)
                if behind:
                    ways[shown] = behind
                    later[behind] = True
            layer[states] = ways
        if len(later) > MOST_SETS:
            raise TooMany("set")
        layers.append(layer)
        level = list(later)
    return layers


def living_layers(layers):
    """The layers with those ways alone that lead on to the end of the look."""
    living = []
    for layer in layers[::-1]:
        kept = {}
        for states, ways in layer.items():
            good = {shown: behind for shown, behind in ways.items() if not living or behind in living[-1]}
            if good:
                kept[states] = good
        living.append(kept)
    return living[::-1]


def counts_behind(layer, counts):
    """How many rows lead to each set of states behind a layer, if `counts` tells it ahead of the layer."""
    later = {}
    for states, number in counts.items():
        for behind in layer.get(states, {}).values():
            later[behind] = later.get(behind, 0) + number
    return later


def count_rows(layers):
    """How many rows lead through the layers."""
    counts = {(0,): 1}
    for layer in layers:
        counts = counts_behind(layer, counts)
    return sum(list(counts.values()))


def row_from(layers, beat, states, at):
    """The rest of a row from some states on, with the first sign that can stand at each beat (the last, for -1)."""
    signs = []
    for layer in layers[beat:]:
        signs.append(sorted(layer[states])[at])
        states = layer[states][signs[-1]]
    return "".join(signs)


def row_behind(layers, row):
    """The next one of the rows that lead through the layers, or None."""
    passed = [(0,)]
    for layer, sign in zip(layers, row):
        passed.append(layer[passed[-1]][sign])
    for beat in range(len(row) - 1, -1, -1):
        ways = layers[beat][passed[beat]]
        greater = sorted([sign for sign in ways if sign > row[beat]])
        if greater:
            return row[:beat] + greater[0] + row_from(layers, beat + 1, ways[greater[0]], 0)
    return None


def sure_sign(layer):
    """The sign by which all ways of a layer lead, or None."""
    signs = sorted({sign for ways in layer.values() for sign in ways})
    return signs[0] if len(signs) == 1 else None


class Backs:
    """All rows that can be seen through an eye as a look."""

    def __init__(self, eye, look):
        check_row(look)
        if len(look) > MOST_LOOK:
            raise TooLong(len(look))
        self.eye = eye
        self.look = look
        self._layers = living_layers(all_layers(eye, look))
        self.number = count_rows(self._layers)
        self.first = row_from(self._layers, 0, (0,), 0) if self.number > 0 else None
        self.last = row_from(self._layers, 0, (0,), -1) if self.number > 0 else None
        self.sure = tuple([sure_sign(layer) for layer in self._layers])

    def __contains__(self, row):
        if not isinstance(row, str) or len(row) != len(self.look):
            return False
        states = (0,)
        for layer, sign in zip(self._layers, row):
            if sign not in layer.get(states, {}):
                return False
            states = layer[states][sign]
        return True

    def each_row(self):
        """All the rows, ascending, each as soon as it is found."""
        row = self.first
        while row is not None:
            yield row
            row = row_behind(self._layers, row)
