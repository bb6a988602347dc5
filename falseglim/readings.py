"""What a talk can have been when a look was seen."""

from falseglim.errors import TooLong, TooMany
from falseglim.signs import check_row

MOST_LOOK = 40
MOST_SETS = 400
# A place is a pair of a number of beats and the states that the eye can have then, ascending.
FIRST = (0, (0,))
END = ()


class EyeSteps:
    """Where an eye is led: the same steps come again and again."""

    def __init__(self, eye):
        self.eye = eye
        self._behind = {}

    def along(self, states, row, look):
        """The states behind each sign of a row while a look is seen, as long as there are any."""
        found = []
        for shown, seen in zip(row, look):
            if (states, shown, seen) not in self._behind:
                self._behind[(states, shown, seen)] = self.eye.onward(states, shown, seen)
            states = self._behind[(states, shown, seen)]
            if not states:
                break
            found.append(states)
        return found


def all_ways(rows, eye, look):
    """A dict from each place at which a piece can begin, by ascending beats, to where the pieces lead from there.

    `rows` are those of the pieces, in ascending order. They lead to places, or to the end of the look.
    """
    steps = EyeSteps(eye)
    starts = [{} for _ in look]
    passed = [{} for _ in look]
    starts[0][FIRST[1]] = True
    ways = {}
    for beat in range(len(look)):
        for states in list(starts[beat]):
            ways[(beat, states)] = {}
            for piece, row in rows.items():
                found = steps.along(states, row, look[beat:])
                note_sets(passed, beat, found)
                end = beat + len(row)
                if end < len(look) and len(found) == len(row):
                    starts[end][found[-1]] = True
                    ways[(beat, states)][piece] = (end, found[-1])
                if beat + len(found) == len(look):
                    ways[(beat, states)][piece] = END
    return ways


def note_sets(passed, beat, found):
    """Notes the sets of states that were found behind some beats; too many of them at one beat are refused."""
    for number, states in enumerate(found):
        passed[beat + number][states] = True
        if len(passed[beat + number]) > MOST_SETS:
            raise TooMany("set")


def living_ways(ways):
    """Those of the ways alone that lead to the end, and for each place how many messages do."""
    living = {}
    numbers = {END: 1}
    for place in list(ways)[::-1]:
        good = {piece: later for piece, later in ways[place].items() if later in numbers}
        if good:
            living[place] = good
            numbers[place] = sum([numbers[later] for later in good.values()])
    return living, numbers


def first_message(ways, place):
    """The first message that leads from a place to the end."""
    text = ""
    while place != END:
        piece = min(list(ways[place]))
        text = text + piece
        place = ways[place][piece]
    return text


def sure_beginning(ways, place):
    """The longest beginning of all messages that lead from a place to the end."""
    text = ""
    while place != END and len(ways[place]) == 1:
        piece = list(ways[place])[0]
        text = text + piece
        place = ways[place][piece]
    return text


class Readings:
    """All messages that fit a look at a talk through an eye."""

    def __init__(self, signals, eye, look):
        check_row(look)
        if len(look) > MOST_LOOK:
            raise TooLong(len(look))
        self.signals = signals
        self.eye = eye
        self.look = look
        self._start = FIRST if look else END
        rows = {piece: signals(piece) for piece in sorted(signals.pieces)}
        self._ways, numbers = living_ways(all_ways(rows, eye, look) if look else {})
        self.number = numbers.get(self._start, 0)
        self.first = first_message(self._ways, self._start) if self.number > 0 else None
        self.sure = sure_beginning(self._ways, self._start) if self.number > 0 else None

    def __contains__(self, message):
        if not isinstance(message, str):
            return False
        place = self._start
        for piece in message:
            if piece not in self._ways.get(place, {}):
                return False
            place = self._ways[place][piece]
        return place == END

    def each_message(self):
        """All messages that fit, ascending, each as soon as it is found."""
        waiting = [("", self._start)] if self.number > 0 else []
        while waiting:
            text, place = waiting.pop()
            if place == END:
                yield text
            else:
                for piece in sorted(self._ways[place], reverse=True):
                    waiting.append((text + piece, self._ways[place][piece]))
