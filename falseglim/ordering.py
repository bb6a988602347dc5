"""Things in the order of the least rows that lead to them."""

from falseglim.errors import TooMany


def lengthened(rows, letters):
    """Some rows of one length, each with one letter more."""
    return tuple([row + letter for row, letter in zip(rows, letters)])


def ordered(firsts, start, follow, most, word):
    """A dict from each thing that is come to, in order, to the least rows that lead to it.

    The rows that lead to the first things are `start`, a tuple of empty rows. `follow` tells for a thing where it
    leads: pairs of a tuple of letters, one for each row, and a thing. More than `most` things are too many of what
    `word` tells.
    """
    found = {thing: start for thing in sorted(firsts)}
    level = list(found)
    while level:
        later = {}
        for thing in level:
            if len(found) + len(later) > most:
                raise TooMany(word)
            for letters, further in follow(thing):
                if further in found:
                    continue
                rows = lengthened(found[thing], letters)
                if further not in later or rows < later[further]:
                    later[further] = rows
        told = sorted([(rows, further) for further, rows in later.items()])
        level = [further for _, further in told]
        for thing in level:
            found[thing] = later[thing]
    return found
