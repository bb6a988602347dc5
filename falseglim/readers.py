"""Readers: states by which one goes sign by sign until a word is said."""

from falseglim.errors import BadReader
from falseglim.forms import is_from, is_tuple
from falseglim.lookout import first_situation, situation_behind
from falseglim.minds import sure_mark
from falseglim.ordering import ordered
from falseglim.signs import SIGNS, check_row, is_mark

MOST_READER_STATES = 400


def is_reader_state(thing, many):
    """Whether a thing is a state of a reader that has so many states."""
    if not is_tuple(thing) or len(thing) != 2 or not is_mark(thing[0]):
        return False
    if not is_tuple(thing[1]) or len(thing[1]) != len(SIGNS):
        return False
    return all([is_from(later, 0, many - 1) for later in thing[1]])


def checked_rows(rows):
    """The states of a reader that were passed, as a tuple of tuples."""
    if not is_tuple(rows) or not 1 <= len(rows) <= MOST_READER_STATES:
        raise BadReader(-1)
    for number, row in enumerate(rows):
        if not is_reader_state(row, len(rows)):
            raise BadReader(number)
    return tuple([(word, tuple(nexts)) for word, nexts in rows])


class Reader:
    """States, each with the word that is said there and the states to which the four signs lead."""

    def __init__(self, rows):
        self.rows = checked_rows(rows)

    def __len__(self):
        return len(self.rows)

    def __iter__(self):
        return iter(self.rows)

    def __eq__(self, other):
        return isinstance(other, Reader) and self.rows == other.rows

    def __call__(self, look):
        check_row(look)
        state, beats = 0, 0
        for sign in look:
            if self.rows[state][0] != "":
                break
            state = self.rows[state][1][SIGNS.index(sign)]
            beats = beats + 1
        word = self.rows[state][0]
        return None if word == "" else (word, beats)


def reader_of_situations(first, step, word_of):
    """The reader of all situations to which looks lead; `step` tells where a sign leads, `word_of` what is said."""
    nexts = {}

    def follow(situation):
        nexts[situation] = [step(situation, sign) for sign in SIGNS]
        return [((sign,), later) for sign, later in zip(SIGNS, nexts[situation])]

    found = ordered([first], ("",), follow, MOST_READER_STATES, "situation")
    numbers = {situation: number for number, situation in enumerate(found)}
    return Reader([(word_of(situation), [numbers[later] for later in nexts[situation]]) for situation in found])


def reader_of(orders):
    """The reader of orders for a look-out."""
    return reader_of_situations(first_situation(orders.lines),
                                lambda situation, sign: situation_behind(orders.lines, situation, sign),
                                lambda situation: situation[-1])


def situation_of(mind, knowledge):
    """The situation of a mind with a knowledge: the mark that it says and nothing else, or else what it knows."""
    mark = sure_mark(mind.world, knowledge)
    return ("", knowledge) if mark is None else (mark, ())


def reader_of_mind(mind):
    """The reader that says a mark as soon as a mind is sure of it."""

    def step(situation, sign):
        mark, knowledge = situation
        return situation if mark != "" else situation_of(mind, mind.sight.onward(knowledge, sign))

    return reader_of_situations(situation_of(mind, mind.opening), step, lambda situation: situation[0])
