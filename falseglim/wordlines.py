"""How lines of words are read and written."""

from falseglim.errors import BadLine, BadText, TooLong
from falseglim.forms import DIGITS, is_tuple
from falseglim.rhythmtext import read_round
from falseglim.signs import are_signs, is_glass, is_letter, is_lit, is_mark, is_name, is_sign, is_word

EMPTY_MARK = "-"
# The bounds of the integers, by what they are the numbers of.
BOUNDS = {"world state": (0, 95), "eye state": (0, 29), "small": (1, 9), "line": (0, 19), "notice": (0, 7)}


def integer_of(word, low, high):
    """The integer from `low` to `high` that a word tells, or None."""
    if word == "" or not all([char in DIGITS for char in word]):
        return None
    # No number within the bounds has so many digits; a longer one is not even read.
    if len(word) > len(str(high)) or (word[0] == "0" and word != "0"):
        return None
    number = int(word)
    return number if low <= number <= high else None


def mark_of_word(word):
    """The mark that a word tells, or None."""
    if word == EMPTY_MARK:
        return ""
    return word if word != "" and is_mark(word) else None


def word_of_mark(mark):
    """The word that tells a mark."""
    return EMPTY_MARK if mark == "" else mark


def value_of(word, kind):
    """What a word of a kind tells, or None if it is none of this kind; a rhythm text can be refused, too.

    A kind can also be a dict, from the only words that can stand there to what they tell.
    """
    if isinstance(kind, dict):
        return kind.get(word)
    if kind in BOUNDS:
        low, high = BOUNDS[kind]
        return integer_of(word, low, high)
    if kind == "mark":
        return mark_of_word(word)
    if kind == "name":
        return word if is_name(word) else None
    if kind == "signs":
        return word if are_signs(word) else None
    if kind == "round":
        return read_round(word)
    if kind == "glass":
        return word if is_glass(word) else None
    if kind == "letter":
        return word if is_letter(word) else None
    if kind == "word":
        return word if is_word(word) else None
    if kind == "lit":
        return word if is_lit(word) else None
    return word if is_sign(word) else None


def check_lines(lines):
    """Refuses what is no tuple."""
    if not is_tuple(lines):
        raise BadLine(0, 0)


def words_of(lines, line):
    """The words of the line with a number; there are no words where the lines have ended."""
    if line >= len(lines) or not isinstance(lines[line], str):
        raise BadLine(line, 0)
    return lines[line].split(" ")


def told_word(words, line, at, kind):
    """What the word of a line with an index tells, which must be one of a kind."""
    try:
        value = value_of(words[at], kind)
    except (BadText, TooLong) as error:
        raise BadLine(line, at) from error
    if value is None:
        raise BadLine(line, at)
    return value


def read_words(words, line, kinds, star=None):
    """What the words of a line behind its first one tell: one of each kind, then any number of the kind `star`."""
    told = []
    for at in range(1, max(len(words), len(kinds) + 1)):
        kind = kinds[at - 1] if at <= len(kinds) else star
        if at >= len(words) or kind is None:
            raise BadLine(line, at)
        told.append(told_word(words, line, at, kind))
    return told


def read_tuples(lines, kinds):
    """What lines tell that have a first word and words of the kinds that are told for it: a tuple for each line."""
    check_lines(lines)
    found = []
    for line in range(len(lines)):
        words = words_of(lines, line)
        if words[0] not in kinds:
            raise BadLine(line, 0)
        found.append(tuple([words[0]] + read_words(words, line, kinds[words[0]])))
    return tuple(found)


def write_tuples(things):
    """The lines of tuples of words and numbers."""
    return tuple([" ".join([str(word) for word in thing]) for thing in things])
