"""Readers that say the same."""

from falseglim.forms import is_from, is_tuple
from falseglim.judging import first_told, first_wrong
from falseglim.ordering import ordered
from falseglim.readers import Reader
from falseglim.signs import SIGNS

MOST_READER_PAIRS = 2000


class ReaderPairs:
    """Where signs lead from pairs of states of two readers."""

    def __init__(self, first, second):
        self.first = first
        self.second = second

    def words(self, pair):
        """The words that the two states of a pair say."""
        return self.first.rows[pair[0]][0], self.second.rows[pair[1]][0]

    def is_silent(self, pair):
        """Whether neither state of a pair has a word."""
        return self.words(pair) == ("", "")

    def differ(self, pair):
        """Whether the two states of a pair have unlike words, or only one of them has one."""
        word, other = self.words(pair)
        return word != other

    def led(self, pair):
        """Where the signs lead, in order."""
        return list(zip(self.first.rows[pair[0]][1], self.second.rows[pair[1]][1]))

    def in_order(self):
        """A dict from all pairs come to in which neither has said anything, in order, to the least looks to them."""

        def follow(pair):
            return [((sign,), later) for sign, later in zip(SIGNS, self.led(pair)) if self.is_silent(later)]

        firsts = [(0, 0)] if self.is_silent((0, 0)) else []
        found = ordered(firsts, ("",), follow, MOST_READER_PAIRS, "pair")
        return {pair: rows[0] for pair, rows in found.items()}

    def breach_behind(self, found):
        """The least look behind which the readers do not say the same, or None; `found` are the pairs in order."""
        if self.differ((0, 0)):
            return ""
        looks = [look + sign for pair, look in found.items()
                 for sign, later in zip(SIGNS, self.led(pair)) if self.differ(later)]
        return min(looks, key=lambda look: (len(look), look), default=None)


class ReaderPair:
    """Whether two readers say the same."""

    def __init__(self, first, second):
        self.first = first
        self.second = second
        pairs = ReaderPairs(first, second)
        found = pairs.in_order()
        self.breach = pairs.breach_behind(found)
        self.table = tuple(found) if self.breach is None else None
        self.rows = tuple(found) if self.breach is None else ()

    def __bool__(self):
        return self.breach is None

    def __len__(self):
        return len(self.rows)

    def __iter__(self):
        return iter(self.rows)


def pair_row(first, second, thing):
    """The row that a thing is: a pair of states of which nothing is told."""
    if not is_tuple(thing) or len(thing) != 2:
        return None
    if not is_from(thing[0], 0, len(first) - 1) or not is_from(thing[1], 0, len(second) - 1):
        return None
    return ((thing[0], thing[1]), None)


def judge_readers(first, second, table):
    """None if a table shows that two readers say the same; -1 or the number of a row if it does not."""
    pairs = ReaderPairs(first, second)
    rows = [pair_row(first, second, thing) for thing in table]
    told = first_told(rows)
    firsts = [(0, 0)] if pairs.is_silent((0, 0)) or pairs.differ((0, 0)) else []

    def is_right(pair, _):
        if not pairs.is_silent(pair):
            return False
        return all([later in told if pairs.is_silent(later) else not pairs.differ(later)
                    for later in pairs.led(pair)])

    return first_wrong(firsts, told, rows, is_right)


def class_numbers(reader):
    """For each state of a reader the number of its class: states from which the same is said have one class."""
    numbers = [word for word, _ in reader]
    many = 0
    while len(set(numbers)) > many:
        many = len(set(numbers))
        found = {}
        told = [finer_class(reader, state, numbers) for state in range(len(reader))]
        for one in told:
            found.setdefault(one, len(found))
        numbers = [found[one] for one in told]
    return numbers


def finer_class(reader, state, numbers):
    """What parts a state from others: its class so far, its word, and, without a word, the classes behind it."""
    word, nexts = reader.rows[state]
    behind = [numbers[later] for later in nexts] if word == "" else []
    return (word, numbers[state], tuple(behind))


def least_reader(reader):
    """The reader with the fewest states of all those that say the same as a reader."""
    numbers = class_numbers(reader)
    states = {}
    for state, number in enumerate(numbers):
        states.setdefault(number, state)

    def led(number):
        word, nexts = reader.rows[states[number]]
        return [number] * len(SIGNS) if word != "" else [numbers[later] for later in nexts]

    def follow(number):
        return [((sign,), later) for sign, later in zip(SIGNS, led(number))]

    found = ordered([numbers[0]], ("",), follow, len(states), "")
    places = {number: place for place, number in enumerate(found)}
    return Reader([(reader.rows[states[number]][0], [places[later] for later in led(number)]) for number in found])
