"""The outlook of a mind: all that it can come to know."""

from falseglim.errors import NoKnowledge, Unknown
from falseglim.forms import ascending_pairs
from falseglim.minds import sure_mark
from falseglim.ordering import ordered
from falseglim.signs import SIGNS

MOST_KNOWLEDGES = 400


def known_looks(mind):
    """A dict from all knowledges but the empty one, in order, to the least looks that lead to them."""

    def follow(knowledge):
        led = [((sign,), mind.sight.onward(knowledge, sign)) for sign in SIGNS]
        return [(letters, later) for letters, later in led if later]

    found = ordered([mind.opening], ("",), follow, MOST_KNOWLEDGES, "knowledge")
    return {knowledge: rows[0] for knowledge, rows in found.items()}


def looks_of_marks(world, looks):
    """A dict from each mark of which a mind can be sure to the least look behind which it is."""
    found = {}
    for knowledge, look in looks.items():
        mark = sure_mark(world, knowledge)
        if mark is not None and mark not in found:
            found[mark] = look
    return found


class Outlook:
    """All knowledges of a mind but the empty one, behind all looks."""

    def __init__(self, mind):
        self.mind = mind
        self._looks = known_looks(mind)
        self._marks = looks_of_marks(mind.world, self._looks)
        self._sure_marks = tuple(sorted(self._marks))

    def __len__(self):
        return len(self._looks)

    def __iter__(self):
        return iter(self._looks)

    def __contains__(self, knowledge):
        return ascending_pairs(knowledge) in self._looks

    def __getitem__(self, knowledge):
        checked = ascending_pairs(knowledge)
        if checked not in self._looks:
            raise NoKnowledge(knowledge)
        return self._looks[checked]

    @property
    def sure_marks(self):
        """The marks of which the mind can be sure, ascending."""
        return self._sure_marks

    def sure_look(self, mark):
        """The least look behind which the mind is sure of a mark, or None."""
        if not isinstance(mark, str) or mark == "" or mark not in self.mind.world.marks:
            raise Unknown(mark)
        return self._marks.get(mark)
