"""Signs, rows, rounds, glasses and marks, and the errors for things that are none."""

from falseglim.errors import BadGlass, BadMark, BadRound, BadRow, BadSign

SIGNS = ".grw"
DARK = "."
MARK_LETTERS = "abcdefghijklmnopqrstuvwxyz0123456789"
MOST_SIGNS = 400
MOST_BEATS = 24
MOST_LETTERS = 8
LETTERS = "abcdefghijklmnopqrstuvwxyz"
MOST_WORD = 12


def is_sign(thing):
    """Whether a thing is one of the four signs."""
    return isinstance(thing, str) and len(thing) == 1 and thing in SIGNS


def is_lit(thing):
    """Whether a thing is a sign other than dark."""
    return is_sign(thing) and thing != DARK


def wrong_sign(text):
    """The index of the first character of a string that is no sign, or None."""
    for at, char in enumerate(text):
        if char not in SIGNS:
            return at
    return None


def is_mark(thing):
    """Whether a thing is a mark; the empty one is a mark, too."""
    if not isinstance(thing, str) or len(thing) > MOST_LETTERS:
        return False
    return all([char in MARK_LETTERS for char in thing])


def is_name(thing):
    """Whether a thing is a mark that is not empty."""
    return is_mark(thing) and thing != ""


def is_glass(thing):
    """Whether a thing is a glass."""
    return isinstance(thing, str) and len(thing) == len(SIGNS) and wrong_sign(thing) is None


def is_round(thing):
    """Whether a thing is a round."""
    return isinstance(thing, str) and 1 <= len(thing) <= MOST_BEATS and wrong_sign(thing) is None


def is_letter(thing):
    """Whether a thing is one letter from `a` to `z`."""
    return isinstance(thing, str) and len(thing) == 1 and thing in LETTERS


def is_word(thing):
    """Whether a thing is a row that can be the word of a signal."""
    return isinstance(thing, str) and 1 <= len(thing) <= MOST_WORD and wrong_sign(thing) is None


def are_signs(thing):
    """Whether a thing is a string of at least one sign, all of them different and in ascending order."""
    if not isinstance(thing, str) or thing == "" or wrong_sign(thing) is not None:
        return False
    return all([thing[at] < thing[at + 1] for at in range(len(thing) - 1)])


def check_sign(sign):
    """Refuses what is no sign."""
    if not is_sign(sign):
        raise BadSign(sign)


def check_row(row):
    """Refuses what is no row."""
    if not isinstance(row, str) or len(row) > MOST_SIGNS:
        raise BadRow(-1)
    at = wrong_sign(row)
    if at is not None:
        raise BadRow(at)


def check_round(row):
    """Refuses what is no round."""
    if not isinstance(row, str) or not 1 <= len(row) <= MOST_BEATS:
        raise BadRound(-1)
    at = wrong_sign(row)
    if at is not None:
        raise BadRound(at)


def check_glass(glass):
    """Refuses what is no glass."""
    if not is_glass(glass):
        raise BadGlass(glass)


def check_mark(mark):
    """Refuses what is no mark."""
    if not is_mark(mark):
        raise BadMark(mark)


def through_glass(glass, sign):
    """What a sign looks like through a glass."""
    return glass[SIGNS.index(sign)]
