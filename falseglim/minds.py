"""Minds: what is held possible behind a look, and what somebody is sure of."""

from falseglim.errors import BadKnowledge
from falseglim.forms import ascending_pairs
from falseglim.sights import Sight
from falseglim.signs import check_row, check_sign


def marks_among(world, standings):
    """The marks of some standings, ascending, the empty one included."""
    return tuple(sorted({world.marks[state] for state, _ in standings}))


def only_mark(marks):
    """The mark of which a mind is sure that holds some marks possible, or None."""
    if len(marks) != 1 or marks[0] == "":
        return None
    return marks[0]


def sure_mark(world, standings):
    """The mark of which a mind with this knowledge is sure, or None."""
    return only_mark(marks_among(world, standings))


class Mind:
    """A supposed world, and the eye through which it is supposed to be seen."""

    def __init__(self, world, eye):
        self.world = world
        self.eye = eye
        self.sight = Sight(world, eye)

    def __eq__(self, other):
        return isinstance(other, Mind) and self.world == other.world and self.eye == other.eye

    def __call__(self, look):
        check_row(look)
        return self.sight.after(look)

    @property
    def opening(self):
        """The knowledge behind the empty look."""
        return self.sight.opening

    def behind(self, knowledge, sign):
        """The knowledge behind one beat more."""
        checked = self._check_knowledge(knowledge)
        check_sign(sign)
        return self.sight.onward(checked, sign)

    def marks_of(self, knowledge):
        """The marks of a knowledge, ascending."""
        return marks_among(self.world, self._check_knowledge(knowledge))

    def sure_of(self, knowledge):
        """The mark of which the mind is sure with a knowledge, or None."""
        return sure_mark(self.world, self._check_knowledge(knowledge))

    def knowledge_of(self, thing):
        """The knowledge that a thing is, come to or not, as a tuple; None if it is none."""
        standings = ascending_pairs(thing)
        if standings is None or not all([self.sight.standing_of(standing) is not None for standing in standings]):
            return None
        return standings

    def _check_knowledge(self, thing):
        knowledge = self.knowledge_of(thing)
        if knowledge is None:
            raise BadKnowledge(thing)
        return knowledge
