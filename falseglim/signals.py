"""Signals: what keepers say by their lights."""

from falseglim.errors import BadLine, BadMark, BadMessage, BadSignal
from falseglim.foldround import fold_round
from falseglim.forms import is_tuple
from falseglim.makers import made_world
from falseglim.signs import check_round, is_letter, is_name, is_word
from falseglim.wordlines import check_lines, read_words, words_of

MOST_SIGNALS = 4
MOST_PIECES = 100
PLAIN = "0"


def is_signal(thing):
    """Whether a thing is a pair of a letter and a word."""
    return is_tuple(thing) and len(thing) == 2 and is_letter(thing[0]) and is_word(thing[1])


def checked_signals(signals):
    """The tuple of at most 4 signals with different letters that a thing is."""
    if not is_tuple(signals) or len(signals) > MOST_SIGNALS:
        raise BadSignal(-1)
    letters = []
    for number, signal in enumerate(signals):
        if not is_signal(signal) or signal[0] in letters:
            raise BadSignal(number)
        letters.append(signal[0])
    return tuple([tuple(signal) for signal in signals])


class Signals:
    """A plain round, and signals: pairs of a letter and the word that is shown for it."""

    def __init__(self, plain, signals=()):
        check_round(plain)
        self.plain = plain
        self.signals = checked_signals(signals)
        self._rows = {PLAIN: plain}
        self._rows.update({letter: word for letter, word in self.signals})
        self._pieces = "".join(list(self._rows))

    def __len__(self):
        return len(self.signals)

    def __iter__(self):
        return iter(self.signals)

    def __eq__(self, other):
        return isinstance(other, Signals) and self.plain == other.plain and self.signals == other.signals

    def __call__(self, message):
        if not isinstance(message, str) or len(message) > MOST_PIECES:
            raise BadMessage(-1)
        for at, piece in enumerate(message):
            if piece not in self._rows:
                raise BadMessage(at)
        return "".join([self._rows[piece] for piece in message])

    @property
    def pieces(self):
        """All pieces: the plain round, then the letters in the order of the signals."""
        return self._pieces


def check_name(name):
    """Refuses what is no mark, and the empty mark."""
    if not is_name(name):
        raise BadMark(name)


def rows_of_pieces(signals):
    """The rows of all pieces, in order."""
    return [signals.plain] + [word for _, word in signals.signals]


def place_behind(rows, place):
    """Where a talk goes on from a place in the row of a piece."""
    piece, at = place
    if at + 1 < len(rows[piece]):
        return [(piece, at + 1)]
    return [(other, 0) for other in range(len(rows))]


def talking_world(signals):
    """The world of all talks, from their beginnings on, marked by their pieces."""
    rows = rows_of_pieces(signals)
    return made_world([(piece, 0) for piece in range(len(rows))], lambda place: place_behind(rows, place),
                      lambda place: (rows[place[0]][place[1]], signals.pieces[place[0]]))


def talking_light(signals, name):
    """The world of all talks, from any moment on, marked by a name."""
    check_name(name)
    rows = rows_of_pieces(signals)
    places = [(piece, at) for piece, row in enumerate(rows) for at in range(len(row))]
    return made_world(places, lambda place: place_behind(rows, place),
                      lambda place: (rows[place[0]][place[1]], name))


def write_signals(signals):
    """The lines of signals."""
    lines = ["round " + fold_round(signals.plain)]
    return tuple(lines + [f"signal {letter} {word}" for letter, word in signals])


def read_signals(lines):
    """The signals that lines tell."""
    check_lines(lines)
    words = words_of(lines, 0)
    if words[0] != "round":
        raise BadLine(0, 0)
    plain = read_words(words, 0, ("round",))[0]
    signals = []
    for line in range(1, len(lines)):
        words = words_of(lines, line)
        if words[0] != "signal":
            raise BadLine(line, 0)
        signals.append(tuple(read_words(words, line, ("letter", "word"))))
    return Signals(plain, tuple(signals))
