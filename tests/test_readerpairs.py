"""Point 34: readers that say the same, tables that show it, and least readers."""

import itertools
import random
import unittest

from falseglim.eyes import Eye
from falseglim.makers import either, ring
from falseglim.minds import Mind
from falseglim.orders import Orders
from falseglim.readerpairs import ReaderPair, judge_readers, least_reader
from falseglim.readers import Reader, reader_of, reader_of_mind
from tests.helpers import ODD, SIGNS, error_of, least_ways, listed, rows_to
from tests.lookouts import EXAMPLE, some_orders

LOOP = (0, 0, 0, 0)
SILENT = Reader((("", LOOP),))
GREEN = Reader((("", (0, 1, 0, 0)), ("a", (1, 1, 1, 1))))


def word_of(reader, state):
    return reader.rows[state][0]


def behind(first, second, pair):
    return [(sign, (first.rows[pair[0]][1][at], second.rows[pair[1]][1][at])) for at, sign in enumerate(SIGNS)]


def told_pairs(first, second, most=5):
    """The table and the breach by the words of the document; breaches by going through looks of up to so many signs."""
    for look in rows_to(most):
        if first(look) != second(look):
            return None, look

    def follow(pair):
        return [(sign, later) for sign, later in behind(first, second, pair)
                if not word_of(first, later[0]) and not word_of(second, later[1])]

    if word_of(first, 0):
        return (), None
    return tuple(least_ways([(0, 0)], follow)), None


def some_reader(seed, many, words=("", "", "", "a", "b")):
    chance = random.Random(seed)
    return Reader([(chance.choice(words) if state else "", [chance.randrange(many) for _ in SIGNS])
                   for state in range(many)])


def blown_up(reader, seed):
    """A reader that says the same, with each state twice, and in another order."""
    chance = random.Random(seed)
    many = len(reader)
    order = list(range(1, 2 * many))
    chance.shuffle(order)
    places = {old: new for new, old in enumerate([0] + order)}
    rows = [None] * (2 * many)
    for old, new in places.items():
        word, nexts = reader.rows[old % many]
        rows[new] = (word, [places[later + chance.choice((0, many))] if not word else chance.randrange(2 * many)
                            for later in nexts])
    return Reader(rows)


def circle(many, word=""):
    """A reader that goes round in so many states and says nothing, but for a word by green in the last of them."""
    rows = [("", ((number + 1) % many,) * 4) for number in range(many)]
    if word:
        rows[-1] = ("", (0, many, 0, 0))
        rows.append((word, (0,) * 4))
    return Reader(rows)


class TestReaderPair(unittest.TestCase):
    def test_attributes(self):
        first, second = GREEN, blown_up(GREEN, 1)
        verdict = ReaderPair(first, second)
        self.assertIs(verdict.first, first)
        self.assertIs(verdict.second, second)
        self.assertIs(bool(verdict), True)
        self.assertIsNone(verdict.breach)
        self.assertEqual(verdict.table, told_pairs(first, second)[0])
        self.assertEqual((len(verdict), tuple(verdict)), (len(verdict.table), verdict.table))

    def test_the_order_of_the_table(self):
        first = Reader((("", (3, 1, 2, 0)), ("", LOOP), ("", LOOP), ("", (3, 3, 3, 3))))
        self.assertEqual(ReaderPair(first, SILENT).table, ((0, 0), (3, 0), (1, 0), (2, 0)))
        self.assertEqual(ReaderPair(SILENT, first).table, ((0, 0), (0, 3), (0, 1), (0, 2)))

    def test_breaches(self):
        verdict = ReaderPair(GREEN, SILENT)
        self.assertIs(bool(verdict), False)
        self.assertEqual(verdict.breach, "g")
        self.assertIsNone(verdict.table)
        self.assertEqual((len(verdict), list(verdict)), (0, []))
        other = Reader((("", (0, 1, 0, 0)), ("b", LOOP)))
        self.assertEqual(ReaderPair(GREEN, other).breach, "g")
        later = Reader((("", (0, 1, 0, 0)), ("", (1, 1, 1, 2)), ("a", LOOP)))
        self.assertEqual(ReaderPair(GREEN, later).breach, "g")
        self.assertEqual(ReaderPair(later, SILENT).breach, "gw")

    def test_a_word_at_the_state_0(self):
        a, b = Reader((("a", LOOP),)), Reader((("b", LOOP), ("a", LOOP)))
        same = ReaderPair(a, Reader((("a", (1, 1, 1, 1)), ("", LOOP))))
        self.assertIs(bool(same), True)
        self.assertEqual((same.table, same.breach, len(same)), ((), None, 0))
        for first, second in ((a, b), (b, a), (a, SILENT), (SILENT, a), (a, GREEN)):
            verdict = ReaderPair(first, second)
            self.assertIs(bool(verdict), False)
            self.assertEqual((verdict.table, verdict.breach), (None, ""))

    def test_against_all_looks(self):
        same, deep = 0, 0
        for seed in range(200):
            first = some_reader(seed, 2 + seed % 4)
            second = blown_up(first, seed)
            if seed % 2:
                rows = list(second.rows)
                number = seed % len(rows)
                rows[number] = (rows[number][0], rows[number][1][1:] + rows[number][1][:1])
                second = Reader(rows)
            table, breach = told_pairs(first, second)
            verdict = ReaderPair(first, second)
            if breach is None and verdict.breach is not None:
                self.assertGreater(len(verdict.breach), 5)
                continue
            self.assertEqual((verdict.table, verdict.breach), (table, breach))
            same = same + (breach is None and len(table) > 2)
            deep = deep + (breach is not None and len(breach) > 1)
            if breach is None:
                self.assertIsNone(judge_readers(first, second, table))
        self.assertGreater(same, 40)
        self.assertGreater(deep, 10)

    def test_two_thousand_pairs(self):
        self.assertEqual(len(ReaderPair(circle(40), circle(41))), 1640)
        self.assertEqual(len(ReaderPair(circle(16), circle(125))), 2000)
        # 23 times 87 is 2,001.
        self.assertEqual(error_of(ReaderPair, circle(23), circle(87)), ("TooMany", "pair"))
        self.assertEqual(error_of(ReaderPair, circle(44), circle(47)), ("TooMany", "pair"))
        # Whether or not they say the same: the word comes only behind many beats, or at once.
        self.assertEqual(ReaderPair(circle(16, "a"), circle(125)).breach, "." * 15 + "g")
        self.assertEqual(error_of(ReaderPair, circle(23, "a"), circle(87)), ("TooMany", "pair"))

    def test_readers_of_orders_and_minds(self):
        orders = Orders(EXAMPLE)
        with_skips = Orders((("skip",), ("wait", ".", 3), ("count", "grw", ".", 3), ("more", 3, 6), ("more", 2, 7), ("go", 1),
                             ("name", "anna"), ("name", "bell")))
        self.assertIs(bool(ReaderPair(reader_of(orders), reader_of(with_skips))), True)
        mind = Mind(either(ring("w..", "anna"), ring("ww...", "bell")), Eye.fair())
        verdict = ReaderPair(reader_of_mind(mind), reader_of(orders))
        self.assertEqual(verdict.breach, told_pairs(reader_of_mind(mind), reader_of(orders))[1])


class TestJudge(unittest.TestCase):
    def setUp(self):
        self.first = Reader((("", (0, 1, 2, 0)), ("", (0, 1, 2, 2)), ("a", LOOP)))
        self.second = blown_up(self.first, 4)
        self.table = ReaderPair(self.first, self.second).table

    def judge(self, table):
        return judge_readers(self.first, self.second, table)

    def test_right_tables(self):
        self.assertIsNone(self.judge(self.table))
        self.assertIsNone(self.judge(listed(self.table)))
        self.assertIsNone(self.judge(self.table[::-1]))
        self.assertIsNone(self.judge(self.table + self.table))

    def test_rows_that_lack(self):
        self.assertEqual(self.judge(()), -1)
        for number, missing in enumerate(self.table):
            left = self.table[:number] + self.table[number + 1:]
            needing = [at for at, row in enumerate(left)
                       if missing in [later for _, later in behind(self.first, self.second, row)]]
            self.assertEqual(self.judge(left), needing[0] if number else -1)

    def test_rows_of_another_form(self):
        for odd in ODD + ((0, 0, 0), (3, 0), (0, 6), (-1, 0), (0, -1), (True, 0), (0, False), (0, "0"), (0.0, 0), "00",
                          ((0, 0),), {0: 0}, (None, 0), (0, 10 ** 39)):
            self.assertEqual(self.judge(self.table + (odd,)), len(self.table))
            self.assertEqual(self.judge((odd,) + self.table), 0)
            self.assertEqual(self.judge((odd,) + self.table[1:]), -1)

    def test_rows_with_words(self):
        said = [number for number, (word, _) in enumerate(self.second.rows) if word]
        for row in ((2, said[0]), (2, 0), (0, said[1])):
            self.assertEqual(self.judge(self.table + (row,)), len(self.table))

    def test_all_pairs(self):
        # Each pair of states is judged, whether or not a look leads there.
        for row in itertools.product(range(3), range(6)):
            later = [pair for _, pair in behind(self.first, self.second, row)]
            known = self.table + (row,)
            good = not word_of(self.first, row[0]) and not word_of(self.second, row[1]) and all(
                word_of(self.first, one) == word_of(self.second, other)
                and (word_of(self.first, one) or (one, other) in known) for one, other in later)
            self.assertEqual(self.judge(known), None if good else len(self.table))

    def test_a_word_at_the_state_0(self):
        a, b = Reader((("a", LOOP),)), Reader((("b", LOOP),))
        self.assertIsNone(judge_readers(a, a, ()))
        self.assertEqual(judge_readers(a, a, ((0, 0),)), 0)
        for first, second in ((a, b), (a, SILENT), (SILENT, a), (SILENT, SILENT)):
            self.assertEqual(judge_readers(first, second, ()), -1)
        for first, second in ((a, b), (a, SILENT), (SILENT, a)):
            self.assertEqual(judge_readers(first, second, ((0, 0),)), 0)
        self.assertIsNone(judge_readers(SILENT, SILENT, ((0, 0),)))
        self.assertEqual(judge_readers(GREEN, SILENT, ((0, 0),)), 0)

    def test_no_table_is_right_where_there_is_a_breach(self):
        for first, second in ((GREEN, SILENT), (self.first, GREEN)):
            rows = list(itertools.product(range(len(first)), range(len(second))))
            for chosen in range(1 << len(rows)):
                table = tuple(row for number, row in enumerate(rows) if chosen >> number & 1)
                self.assertIsNotNone(judge_readers(first, second, table))


class TestLeastReader(unittest.TestCase):
    def test_plain_ones(self):
        self.assertEqual(least_reader(SILENT), SILENT)
        self.assertEqual(least_reader(GREEN), GREEN)
        self.assertEqual(least_reader(circle(24)), SILENT)
        # A state with a word leads to itself, whatever it led to; one from which no word can come as well.
        self.assertEqual(least_reader(Reader((("a", (1, 1, 1, 1)), ("", LOOP)))).rows, (("a", LOOP),))
        told = least_reader(Reader((("", (1, 2, 0, 0)), ("", (3, 3, 3, 3)), ("a", LOOP), ("", (1, 1, 1, 1)))))
        self.assertEqual(told.rows, (("", (1, 2, 0, 0)), ("", (1, 1, 1, 1)), ("a", (2, 2, 2, 2))))
        # Words that come behind a word alone do not come.
        self.assertEqual(len(least_reader(Reader((("", (1, 1, 1, 1)), ("a", (2, 2, 2, 2)), ("b", LOOP))))), 2)

    def test_numbers_by_the_least_looks(self):
        reader = Reader((("", (3, 0, 2, 1)), ("a", LOOP), ("b", LOOP), ("c", LOOP)))
        self.assertEqual(least_reader(reader).rows,
                         (("", (1, 0, 2, 3)), ("c", (1,) * 4), ("b", (2,) * 4), ("a", (3,) * 4)))

    def test_the_fewest_states(self):
        for seed in range(80):
            reader = some_reader(seed, 2 + seed % 5)
            least = least_reader(reader)
            self.assertIs(bool(ReaderPair(reader, least)), True)
            self.assertEqual(least_reader(blown_up(reader, seed)), least)
            self.assertEqual(least_reader(least), least)
            # Any two of its states say unlike things: each is told apart by what is said from it on.
            told = set()
            for state in range(len(least)):
                moved = [state] + [number for number in range(len(least)) if number != state]
                places = {old: new for new, old in enumerate(moved)}
                begun = Reader([(least.rows[old][0], [places[later] for later in least.rows[old][1]]) for old in moved])
                told.add(tuple(begun(look) for look in rows_to(4)))
            self.assertEqual(len(told), len(least))
            looks = least_ways([0], lambda state: [(sign, least.rows[state][1][at]) for at, sign in enumerate(SIGNS)])
            self.assertEqual(list(looks), list(range(len(least))))

    def test_readers_of_orders(self):
        for seed in range(60):
            reader = reader_of(some_orders(seed))
            least = least_reader(reader)
            self.assertLessEqual(len(least), len(reader))
            self.assertIs(bool(ReaderPair(reader, least)), True)

    def test_large_readers(self):
        # In a chain of 400 states, each is told apart only by how far the end is.
        rows = [("", (number + 1,) * 4) for number in range(399)] + [("a", (0,) * 4)]
        chain = Reader(rows)
        self.assertEqual(least_reader(chain).rows[:399], chain.rows[:399])
        self.assertEqual(least_reader(chain).rows[399], ("a", (399,) * 4))
        self.assertEqual(len(least_reader(Reader(rows[:399] + [("", (399,) * 4)]))), 1)


if __name__ == "__main__":
    unittest.main()
