"""Where true beats lead: a true standing, and a reader that goes along."""

from falseglim.forms import is_from
from falseglim.ordering import ordered
from falseglim.sights import Sight
from falseglim.signs import SIGNS

MOST_READER_NIGHTS = 2000


class ReaderBeats:
    """A truth and a reader, from any place on, come to or not: a pair of a true standing and a state of the reader."""

    def __init__(self, reader, world, eye):
        self.reader = reader
        self.world = world
        self.truth = Sight(world, eye)
        self.firsts = [(standing, 0) for standing in self.truth.opening]
        self._behind = {}

    def place_of(self, standing, state):
        """The place that two things are, or None if they are no true standing and no state of the reader."""
        checked = self.truth.standing_of(standing)
        if checked is None or not is_from(state, 0, len(self.reader.rows) - 1):
            return None
        return (checked, state)

    def word_at(self, place):
        """The word that the reader says, empty if it says none."""
        return self.reader.rows[place[1]][0]

    def is_wrong(self, place):
        """Whether the reader says what is not so."""
        word = self.word_at(place)
        return word != "" and word != self.world.marks[place[0][0]]

    def led(self, place):
        """Where true beats lead: pairs of a tuple with the sign seen and a place."""
        standing, state = place
        found = []
        for sign, later in zip(SIGNS, self.reader.rows[state][1]):
            found.extend([((sign,), (further, later)) for further in self._standings_behind(standing, sign)])
        return found

    def in_order(self):
        """A dict from all places come to at which nothing has been said, in order, to the least looks to them."""

        def follow(place):
            return [(letters, later) for letters, later in self.led(place) if self.word_at(later) == ""]

        firsts = [place for place in self.firsts if self.word_at(place) == ""]
        found = ordered(firsts, ("",), follow, MOST_READER_NIGHTS, "night")
        return {place: rows[0] for place, rows in found.items()}

    def _standings_behind(self, standing, sign):
        if (standing, sign) not in self._behind:
            self._behind[(standing, sign)] = self.truth.onward((standing,), sign)
        return self._behind[(standing, sign)]
