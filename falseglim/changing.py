"""A coast that is changed night by night while elder charts are still aboard."""

from falseglim.chartships import ChartShips
from falseglim.coasts import MOST_LIGHTS, Coast
from falseglim.errors import BadHands, BadLag, BadMixture, TooMany
from falseglim.forms import is_from, is_tuple
from falseglim.ordering import ordered

MOST_CHANGED = 4
MOST_HANDS = 4
MOST_LAG = 2
MOST_WINDOWS = 400
OLD = "o"
NEW = "n"
OUT = "x"
LETTERS = "nox"


def all_names(old, new):
    """The names of the lights of two coasts, ascending."""
    return sorted({name for name, _ in old.lights + new.lights})


def changed_names(old, new):
    """The names of the lights that two coasts do not both have with one round, ascending."""
    elder, later = dict(old.lights), dict(new.lights)
    names = all_names(old, new)
    changed = tuple([name for name in names if elder.get(name) != later.get(name)])
    if len(changed) > MOST_CHANGED or len(names) > MOST_LIGHTS:
        raise TooMany("light")
    return changed


def is_all_new(mixture):
    """Whether a mixture has the letters `n` alone."""
    return mixture == NEW * len(mixture)


def letters_behind(letter, dark):
    """Into what a letter can be changed in a night."""
    if letter == OLD:
        return NEW + OUT if dark else NEW
    return NEW if letter == OUT and dark else ""


def mixtures_behind(mixture, hands, dark):
    """The mixtures to which a night can lead in which at most so many letters are changed."""
    found = [("", 0)]
    for letter in mixture:
        unchanged = [(row + letter, many) for row, many in found]
        found = unchanged + [(row + other, many + 1) for row, many in found for other in letters_behind(letter, dark)]
    return [row for row, many in found if 1 <= many <= hands]


class Changing:
    """Whether an old coast can be changed into a new one so that no ship with a chart of late is misled."""

    def __init__(self, old, new, supposed, eye, *, hands=1, lag=1, dark=True):
        if not is_from(hands, 1, MOST_HANDS):
            raise BadHands(hands)
        if not is_from(lag, 0, MOST_LAG):
            raise BadLag(lag)
        self.names = changed_names(old, new)
        self.old = old
        self.new = new
        self.supposed = supposed
        self.eye = eye
        self.hands = hands
        self.lag = lag
        self.dark = dark
        self._ships = ChartShips(supposed, eye)
        self._calm = {}
        self._first = (OLD * len(self.names),) * (lag + 1)
        found = self._windows_come_to()
        ends = [window for window in found if is_all_new(window[-1])]
        self.plan = self._plan_of(found[ends[0]][0]) if ends else None
        self.lot = None if ends else tuple(sorted(found))

    def __bool__(self):
        return self.plan is not None

    def coast_of(self, mixture):
        """The coast of a mixture."""
        self._check_mixture(mixture)
        elder, later = dict(self.old.lights), dict(self.new.lights)
        letters = {name: letter for name, letter in zip(self.names, mixture)}
        lights = []
        for name in all_names(self.old, self.new):
            letter = letters.get(name, OLD)
            rounds = elder if letter == OLD else later
            if letter != OUT and name in rounds:
                lights.append((name, rounds[name]))
        return Coast(lights)

    def is_calm(self, chart, mixture):
        """Whether a ship with the chart of a mixture is misled by no light of another one."""
        self._check_mixture(chart)
        self._check_mixture(mixture)
        if (chart, mixture) not in self._calm:
            told = self._ships.first_misled(self.coast_of(chart), self.coast_of(mixture))
            self._calm[(chart, mixture)] = told is None
        return self._calm[(chart, mixture)]

    def judge_plan(self, plan):
        """None if the nights of a plan are let and lead to the new coast; otherwise the number of a wrong one."""
        window = self._first
        for number, mixture in enumerate(plan):
            if not self._is_mixture(mixture) or mixture not in self._mixtures_behind(window[-1]):
                return number
            window = window[1:] + (mixture,)
            if not self._is_let(window):
                return number
        return None if is_all_new(window[-1]) else len(plan)

    def judge_lot(self, windows):
        """None if a lot of windows is closed; -1 or the number of a window if it is not."""
        kept = [self._window_of(thing) for thing in windows]
        known = {window: True for window in kept if window is not None}
        if self._first not in known:
            return -1
        for number, window in enumerate(kept):
            if window is None or is_all_new(window[-1]):
                return number
            if not all([later in known for later in self._windows_behind(window)]):
                return number
        return None

    def _is_mixture(self, thing):
        if not isinstance(thing, str) or len(thing) != len(self.names):
            return False
        return all([letter in LETTERS for letter in thing])

    def _check_mixture(self, thing):
        if not self._is_mixture(thing):
            raise BadMixture(thing)

    def _window_of(self, thing):
        if not is_tuple(thing) or len(thing) != self.lag + 1:
            return None
        return tuple(thing) if all([self._is_mixture(mixture) for mixture in thing]) else None

    def _is_let(self, window):
        for chart in window:
            if not self.is_calm(chart, window[-1]):
                return False
        return True

    def _mixtures_behind(self, mixture):
        return mixtures_behind(mixture, self.hands, self.dark)

    def _windows_behind(self, window):
        windows = [window[1:] + (mixture,) for mixture in self._mixtures_behind(window[-1])]
        return [later for later in windows if self._is_let(later)]

    def _windows_come_to(self):
        def follow(window):
            return [] if is_all_new(window[-1]) else [((later[-1],), later) for later in self._windows_behind(window)]

        # All mixtures have one length: so the rows of mixtures compare as the tuples of them do.
        return ordered([self._first], ("",), follow, MOST_WINDOWS, "window")

    def _plan_of(self, row):
        many = len(self.names)
        return tuple([row[at:at + many] for at in range(0, len(row), many)]) if row else ()
