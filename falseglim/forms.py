"""What form a thing has that was passed: lists stand for tuples, and True and False are no integers."""

DIGITS = "0123456789"


def is_integer(thing):
    """Whether a thing is an integer; True and False are none, although Python counts them among them."""
    return isinstance(thing, int) and not isinstance(thing, bool)


def is_from(thing, low, high):
    """Whether a thing is an integer within bounds."""
    return is_integer(thing) and low <= thing <= high


def is_natural(thing):
    """Whether a thing is an integer from 0."""
    return is_integer(thing) and thing >= 0


def is_tuple(thing):
    """Whether a thing is a tuple, or a list in the place of one."""
    return isinstance(thing, (list, tuple))


def ascending_integers(thing):
    """The tuple of integers that a thing is, if they ascend without duplicates; otherwise None."""
    if not is_tuple(thing):
        return None
    kept = []
    for number in thing:
        if not is_integer(number) or (kept and number <= kept[-1]):
            return None
        kept.append(number)
    return tuple(kept)


def pair_of_integers(thing):
    """The tuple of two integers that a thing is, or None."""
    if not is_tuple(thing) or len(thing) != 2:
        return None
    if not is_integer(thing[0]) or not is_integer(thing[1]):
        return None
    return (thing[0], thing[1])


def ascending_pairs(thing):
    """The tuple of pairs of integers that a thing is, if they ascend without duplicates; otherwise None."""
    if not is_tuple(thing):
        return None
    kept = []
    for part in thing:
        pair = pair_of_integers(part)
        if pair is None or (kept and pair <= kept[-1]):
            return None
        kept.append(pair)
    return tuple(kept)
