"""Readers that are right for a truth."""

from falseglim.forms import is_tuple
from falseglim.judging import first_told, first_wrong
from falseglim.readerbeats import ReaderBeats


class RightReader:
    """Whether a reader is right for a truth: what it says is so at the moment when it says it."""

    def __init__(self, reader, world, eye):
        self.reader = reader
        self.world = world
        self.eye = eye
        beats = ReaderBeats(reader, world, eye)
        found = beats.in_order()
        self.breach = breach_of(beats, found)
        self.table = tuple(found) if self.breach is None else None
        self.rows = tuple(found) if self.breach is None else ()

    def __bool__(self):
        return self.breach is None

    def __len__(self):
        return len(self.rows)

    def __iter__(self):
        return iter(self.rows)


def breach_of(beats, found):
    """The least look behind which a word is said that is not so, the word, and the least standing that is not so."""
    said = [("", place) for place in beats.firsts]
    for place, look in found.items():
        said.extend([(look + letters[0], later) for letters, later in beats.led(place)])
    wrong = [(look, beats.word_at(place), place[0]) for look, place in said if beats.is_wrong(place)]
    return min(wrong, key=lambda told: (len(told[0]), told), default=None)


def right_row(beats, thing):
    """The row that a thing is: a place of which nothing is told."""
    place = beats.place_of(thing[0], thing[1]) if is_tuple(thing) and len(thing) == 2 else None
    return None if place is None else (place, None)


def judge_right(reader, world, eye, table):
    """None if a table shows that a reader is right for a truth; -1 or the number of a row if it does not."""
    beats = ReaderBeats(reader, world, eye)
    rows = [right_row(beats, thing) for thing in table]
    told = first_told(rows)

    def is_right(place, _):
        if beats.word_at(place) != "":
            return False
        return all([later in told if beats.word_at(later) == "" else not beats.is_wrong(later)
                    for _, later in beats.led(place)])

    lacking = [place for place in beats.firsts if beats.word_at(place) == "" or beats.is_wrong(place)]
    return first_wrong(lacking, told, rows, is_right)
