"""Where true beats lead: a true standing, and a mind that looks on."""

from falseglim.minds import marks_among, only_mark
from falseglim.ordering import ordered
from falseglim.sights import Sight
from falseglim.signs import SIGNS

MOST_PAIRS = 1500


class NightBeats:
    """A truth and a mind that looks on, from any place on, come to or not.

    A place is a pair of a true standing and the number of a knowledge: a knowledge can be large, and is met often.
    """

    def __init__(self, mind, world, eye):
        self.mind = mind
        self.world = world
        self.truth = Sight(world, eye)
        self._numbers = {}
        self._knowledges = []
        self._marks = []
        self._knowledge_leads = {}
        self._truth_leads = {}
        first = self._number_of(mind.opening)
        self.firsts = [(standing, first) for standing in self.truth.opening]

    def place_of(self, standing, knowledge):
        """The place that two things are, or None if they are no true standing and no knowledge of the mind."""
        checked = self.truth.standing_of(standing)
        known = self.mind.knowledge_of(knowledge)
        if checked is None or known is None:
            return None
        return (checked, self._number_of(known))

    def pair_at(self, place):
        """The pair of a true standing and a knowledge that a place tells."""
        return (place[0], self._knowledges[place[1]])

    def sure_at(self, place):
        """The mark of which the mind is sure, or None."""
        return only_mark(self._marks[place[1]])

    def marks_at(self, place):
        """The marks that the mind holds possible."""
        return self._marks[place[1]]

    def true_mark(self, place):
        """The true mark."""
        return self.world.marks[place[0][0]]

    def is_misled(self, place):
        """Whether the mind is sure of what is not so."""
        sure = self.sure_at(place)
        return sure is not None and sure != self.true_mark(place)

    def led_sets(self, place):
        """Where true beats lead: triples of the sign seen, the standings behind it and the number of the knowledge."""
        standing, number = place
        found = []
        for sign in SIGNS:
            later = self._standings_behind(standing, sign)
            if later:
                found.append((sign, later, self._number_behind(number, sign)))
        return found

    def true_beats(self, place):
        """Where true beats lead: pairs of a tuple with the sign seen and a place."""
        return [((sign,), (later, number)) for sign, standings, number in self.led_sets(place) for later in standings]

    def _number_of(self, knowledge):
        if knowledge not in self._numbers:
            self._numbers[knowledge] = len(self._knowledges)
            self._knowledges.append(knowledge)
            self._marks.append(marks_among(self.mind.world, knowledge))
        return self._numbers[knowledge]

    def _number_behind(self, number, sign):
        if (number, sign) not in self._knowledge_leads:
            behind = self.mind.sight.onward(self._knowledges[number], sign)
            self._knowledge_leads[(number, sign)] = self._number_of(behind)
        return self._knowledge_leads[(number, sign)]

    def _standings_behind(self, standing, sign):
        if (standing, sign) not in self._truth_leads:
            self._truth_leads[(standing, sign)] = self.truth.onward((standing,), sign)
        return self._truth_leads[(standing, sign)]


def places_in_order(nights):
    """A dict from all places that are come to, in order, to the least looks that lead to them."""
    passed = {}

    def follow(place):
        led = []
        for one in nights.led_sets(place):
            # A place that goes ahead in the order has led there by this sign: no look from here on is less.
            if one not in passed:
                passed[one] = True
                sign, standings, number = one
                led.extend([((sign,), (later, number)) for later in standings])
        return led

    # Places with one look have one knowledge: so they are in the order of the pairs that they tell.
    found = ordered(nights.firsts, ("",), follow, MOST_PAIRS, "night")
    return {place: rows[0] for place, rows in found.items()}


class NightGraph:
    """All pairs of a true standing and a knowledge that are come to, told by their numbers in order."""

    def __init__(self, mind, world, eye):
        self.nights = NightBeats(mind, world, eye)
        found = places_in_order(self.nights)
        self.places = tuple(found)
        self.looks = tuple(found.values())
        self.pairs = tuple([self.nights.pair_at(place) for place in found])
        self.misled = [number for number, place in enumerate(found) if self.nights.is_misled(place)]

    def misled_look(self):
        """The least look behind which the mind is misled, or None."""
        return self.looks[self.misled[0]] if self.misled else None

    def all_leads(self):
        """A dict from each number to where true beats lead: pairs of a tuple with the sign seen and a number."""
        numbers = {place: number for number, place in enumerate(self.places)}
        return {number: [(letters, numbers[later]) for letters, later in self.nights.true_beats(place)]
                for place, number in numbers.items()}
