"""Which signals a light can have that a near eye reads and by which no far mind is misled."""

from falseglim.bears import check_delay, is_told_back
from falseglim.lots import all_lots, checked_lot, greatest_lots
from falseglim.nightbeats import NightGraph
from falseglim.signals import Signals, check_name, talking_light, talking_world


def with_lot(signals, lot):
    """The signals of a lot alone."""
    return Signals(signals.plain, [signals.signals[number] for number in lot])


class LetLots:
    """Which lots of signals are let for a near eye with a delay, and for a far mind, a name and a far eye."""

    def __init__(self, signals, near, delay, mind, name, far):
        check_delay(delay)
        check_name(name)
        self.signals = signals
        self.near = near
        self.delay = delay
        self.mind = mind
        self.name = name
        self.far = far
        self._reasons = {lot: self._reason_of(with_lot(signals, lot)) for lot in all_lots(len(signals))}
        self.lots = greatest_lots([lot for lot in self._reasons if self._reasons[lot] is None])

    def reason(self, lot):
        """Why a lot of signals is not let; None if it is let."""
        return self._reasons[checked_lot(lot, len(self.signals))]

    def _reason_of(self, signals):
        if not is_told_back(talking_world(signals), self.near, self.delay):
            return ("near",)
        look = NightGraph(self.mind, talking_light(signals, self.name), self.far).misled_look()
        return None if look is None else ("far", look)
