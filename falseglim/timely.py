"""Readers that are timely for a truth."""

from falseglim.forms import is_natural, is_tuple
from falseglim.judging import first_told, first_wrong
from falseglim.loops import bounded_ranks, least_loop, looped
from falseglim.readerbeats import ReaderBeats


class Timely:
    """Whether a reader is timely for a truth: it says something on all nights, however they go on."""

    def __init__(self, reader, world, eye):
        self.reader = reader
        self.world = world
        self.eye = eye
        beats = ReaderBeats(reader, world, eye)
        looks = beats.in_order()
        leads = silent_leads(beats, list(looks))
        circles = looped(leads)
        self.breach = breach_of(list(looks.values()), leads, min(list(circles))) if circles else None
        self.table = None if circles else table_of(list(looks), leads)
        self.rows = () if circles else self.table
        # The pairs of a beginning are those to which the empty look leads; there are none if the state 0 has a word.
        self.time = None if circles else max([row[2] for row in self.rows if looks[row[:2]] == ""], default=0)

    def __bool__(self):
        return self.breach is None

    def __len__(self):
        return len(self.rows)

    def __iter__(self):
        return iter(self.rows)


def silent_leads(beats, places):
    """A dict from the number of each place to where true beats lead behind which nothing has been said either."""
    numbers = {place: number for number, place in enumerate(places)}
    return {number: [(letters, numbers[later]) for letters, later in beats.led(place) if later in numbers]
            for place, number in numbers.items()}


def breach_of(looks, leads, number):
    """The least look to a place from which a loop leads back to it, and the least such loop."""
    return (looks[number], least_loop(number, leads))


def table_of(places, leads):
    """The triples of all places in order, with the greatest number of beats that can come until something is said."""
    ranks = bounded_ranks(leads)
    return tuple([place + (ranks[number] + 1,) for number, place in enumerate(places)])


def timely_row(beats, thing):
    """The row that a thing is: a place and a rank."""
    if not is_tuple(thing) or len(thing) != 3 or not is_natural(thing[2]) or thing[2] == 0:
        return None
    place = beats.place_of(thing[0], thing[1])
    return None if place is None else (place, thing[2])


def judge_timely(reader, world, eye, table):
    """None if a table shows that a reader is timely for a truth; -1 or the number of a row if it does not."""
    beats = ReaderBeats(reader, world, eye)
    rows = [timely_row(beats, thing) for thing in table]
    told = first_told(rows)

    def is_right(place, rank):
        if beats.word_at(place) != "":
            return False
        silent = [later for _, later in beats.led(place) if beats.word_at(later) == ""]
        return all([later in told and told[later] < rank for later in silent])

    lacking = [place for place in beats.firsts if beats.word_at(place) == ""]
    return first_wrong(lacking, told, rows, is_right)
