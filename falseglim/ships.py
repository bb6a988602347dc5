"""Ships that have heard some notices: by which lights they are misled, and what they must hear."""

from falseglim.chartships import ChartShips
from falseglim.errors import TooMany
from falseglim.lots import all_lots, checked_lot, in_size_order, is_part, least_lots

MOST_HEARD = 6


def least_in_size_order(lots):
    """Those of some lots of which no other one is a part, ordered by their numbers of things, then as tuples."""
    return tuple(in_size_order(least_lots(lots)))


def is_enough(lot, told):
    """Whether no ship is misled that has heard at least a lot; `told` tells for each lot by what a ship is misled."""
    return told[lot] is None and all([told[other] is None for other in told if is_part(lot, other)])


class Ships:
    """Ships that suppose the charts of what they have heard, and what they are misled by at the true coast."""

    def __init__(self, notices, supposed, eye):
        if len(notices) > MOST_HEARD:
            raise TooMany("notice")
        self.notices = notices
        self.supposed = supposed
        self.eye = eye
        coast = notices.true_coast
        ships = ChartShips(supposed, eye)
        lots = all_lots(len(notices))
        charts = {}
        self._told = {}
        for lot in lots:
            charts[lot] = notices.chart(lot)
            self._told[lot] = ships.first_misled(charts[lot], coast)
        self.must_hear = least_in_size_order([lot for lot in lots if is_enough(lot, self._told)])
        self.digests = least_in_size_order([lot for lot in lots if sorted(charts[lot].lights) == sorted(coast.lights)])

    def misled_by(self, lot):
        """The light by which a ship that has heard a lot is misled, the look and the mark; None if it is not."""
        return self._told[checked_lot(lot, len(self.notices))]
