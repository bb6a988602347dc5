"""Lots: ascending tuples of numbers of things."""

from falseglim.errors import BadLot
from falseglim.forms import ascending_integers


def all_lots(many):
    """All lots of so many things, in ascending order."""
    found = [()]
    for number in range(many):
        found = found + [lot + (number,) for lot in found]
    return sorted(found)


def in_size_order(lots):
    """Some lots ordered by how many things are in them, then as tuples."""
    return [lot for _, lot in sorted([(len(lot), lot) for lot in lots])]


def checked_lot(thing, many):
    """The lot of so many things that a thing is, as a tuple."""
    lot = ascending_integers(thing)
    if lot is None or (lot and (lot[0] < 0 or lot[-1] >= many)):
        raise BadLot(thing)
    return lot


def is_part(lot, other):
    """Whether a lot is a part of another one, and not the same."""
    return lot != other and all([number in other for number in lot])


def greatest_lots(lots):
    """Those of some lots that are no part of another one of them."""
    return tuple([lot for lot in lots if not any([is_part(lot, other) for other in lots])])


def least_lots(lots):
    """Those of some lots of which no other one of them is a part."""
    return tuple([lot for lot in lots if not any([is_part(other, lot) for other in lots])])
