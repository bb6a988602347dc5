"""How lines of words are read and written."""

from falseglim.errors import BadLine
from falseglim.forms import DIGITS, is_tuple
from falseglim.signs import is_lit, is_mark, is_sign

EMPTY_MARK = "-"
# The bounds of the integers, by what they are the numbers of.
BOUNDS = {"world state": (0, 95), "eye state": (0, 29), "weather": (1, 9)}


def integer_of(word, low, high):
    """The integer from `low` to `high` that a word tells, or None."""
    if word == "" or not all([char in DIGITS for char in word]):
        return None
    # No number within the bounds has so many digits; a longer one is not even read.
    if len(word) > len(str(high)) or (word[0] == "0" and word != "0"):
        return None
    number = int(word)
    return number if low <= number <= high else None


def mark_of_word(word):
    """The mark that a word tells, or None."""
    if word == EMPTY_MARK:
        return ""
    return word if word != "" and is_mark(word) else None


def word_of_mark(mark):
    """The word that tells a mark."""
    return EMPTY_MARK if mark == "" else mark


def value_of(word, kind):
    """What a word of a kind tells, or None if it is none of this kind."""
    if kind in BOUNDS:
        low, high = BOUNDS[kind]
        return integer_of(word, low, high)
    if kind == "mark":
        return mark_of_word(word)
    if kind == "lit":
        return word if is_lit(word) else None
    return word if is_sign(word) else None


def check_lines(lines):
    """Refuses what is no tuple."""
    if not is_tuple(lines):
        raise BadLine(0, 0)


def words_of(lines, line):
    """The words of the line with a number; there are no words where the lines have ended."""
    if line >= len(lines) or not isinstance(lines[line], str):
        raise BadLine(line, 0)
    return lines[line].split(" ")


def read_words(words, line, kinds, star=None):
    """What the words of a line behind its first one tell: one of each kind, then any number of the kind `star`."""
    told = []
    for at in range(1, max(len(words), len(kinds) + 1)):
        kind = kinds[at - 1] if at <= len(kinds) else star
        if at >= len(words) or kind is None:
            raise BadLine(line, at)
        value = value_of(words[at], kind)
        if value is None:
            raise BadLine(line, at)
        told.append(value)
    return told
