"""Point 37: needless lines of orders, and lean orders."""

import unittest

from falseglim.leanorders import lean_orders, needless
from falseglim.orders import Orders
from falseglim.readerpairs import ReaderPair
from falseglim.readers import reader_of
from tests.helpers import error_of, rows_to
from tests.lookouts import EXAMPLE, some_orders, told_said


def with_skip(lines, number):
    return tuple(("skip",) if at == number else line for at, line in enumerate(lines))


def say_the_same(lines, others):
    return bool(ReaderPair(reader_of(Orders(lines)), reader_of(Orders(others))))


def told_needless(lines):
    return tuple(number for number, line in enumerate(lines)
                 if line != ("skip",) and say_the_same(lines, with_skip(lines, number)))


def told_lean(lines):
    for number, line in enumerate(lines):
        if line != ("skip",) and say_the_same(lines, with_skip(lines, number)):
            lines = with_skip(lines, number)
    return lines


class TestNeedless(unittest.TestCase):
    def both(self, *lines):
        return needless(Orders(lines)), lean_orders(Orders(lines)).lines

    def test_nothing_is_needless(self):
        orders = Orders(EXAMPLE)
        self.assertEqual(needless(orders), ())
        self.assertIsInstance(needless(orders), tuple)
        self.assertEqual(lean_orders(orders), orders)
        self.assertIsInstance(lean_orders(orders), Orders)

    def test_a_needless_line(self):
        lines = (("wait", "w", 1), ("go", 2), ("name", "a"))
        self.assertEqual(self.both(*lines), ((1,), (lines[0], ("skip",), lines[2])))
        # What stands behind a word is never come to; a second word neither.
        self.assertEqual(self.both(("name", "a"), ("wait", "w", 1), ("name", "b"))[0], (1, 2))
        # A go to the next line but one over a skip.
        self.assertEqual(self.both(("go", 2), ("skip",), ("pass", 1), ("name", "a"))[0], (0,))

    def test_skips_are_never_told(self):
        lines = (("skip",), ("wait", "w", 1), ("skip",), ("name", "a"), ("skip",))
        self.assertEqual(self.both(*lines), ((), lines))
        self.assertEqual(self.both(("skip",)), ((), (("skip",),)))
        self.assertEqual(self.both(("skip",), ("skip",)), ((), (("skip",), ("skip",))))

    def test_orders_without_a_word(self):
        # They say nothing, whatever is left out.
        lines = (("wait", "w", 1), ("go", 0), ("pass", 3))
        self.assertEqual(self.both(*lines), ((0, 1, 2), (("skip",),) * 3))

    def test_needless_only_until_another_one_is_left_out(self):
        # Each of the two gos can be left out, but not both of them.
        lines = (("wait", "w", 1), ("go", 4), ("go", 4), ("name", "b"), ("name", "a"))
        self.assertEqual(self.both(*lines), ((1, 2, 3), (lines[0], ("skip",), lines[2], ("skip",), lines[4])))
        lines = (("last", "w", 3), ("wait", "w", 2), ("name", "a"), ("name", "a"))
        told = self.both(*lines)
        self.assertEqual(told, (told_needless(lines), told_lean(lines)))
        # The same word twice: with the first one left out, the second one is needed.
        lines = (("pass", 1), ("name", "a"), ("name", "a"))
        self.assertEqual(self.both(*lines), ((1, 2), (lines[0], ("skip",), lines[2])))

    def test_from_the_first_line_to_the_last(self):
        lines = (("wait", "w", 1), ("more", 1, 3), ("go", 3), ("go", 5), ("name", "b"), ("name", "a"))
        left = lean_orders(Orders(lines)).lines
        self.assertEqual(left, told_lean(lines))
        self.assertEqual(left, (lines[0], ("skip",), ("skip",), lines[3], ("skip",), lines[5]))

    def test_the_count_and_the_last_beat(self):
        # A count that is never asked is but a wait; as a wait is not put there, it is needed.
        lines = (("count", "w", ".", 2), ("name", "a"))
        self.assertEqual(needless(Orders(lines)), ())
        lines = (("wait", "w", 1), ("last", "g", 3), ("name", "a"), ("name", "b"))
        self.assertEqual(needless(Orders(lines)), (1, 3))
        lines = (("wait", "gw", 1), ("last", "g", 3), ("name", "a"), ("name", "b"))
        self.assertEqual(needless(Orders(lines)), ())

    def test_against_the_words(self):
        found, changed = set(), 0
        for seed in range(250):
            orders = some_orders(seed)
            lines = orders.lines
            told = error_of(needless, orders)
            self.assertEqual(told, error_of(told_needless, lines), lines)
            if told == ("TooMany", "pair"):
                self.assertEqual(error_of(lambda: lean_orders(orders).lines), error_of(told_lean, lines))
                continue
            lean = lean_orders(orders)
            self.assertEqual(lean.lines, told_lean(lines))
            self.assertEqual(orders.lines, lines)
            self.assertEqual([told_said(lean.lines, look) for look in rows_to(4)],
                             [told_said(lines, look) for look in rows_to(4)])
            found.add(len(told))
            skips = tuple(number for number, line in enumerate(lean.lines) if line == ("skip",) != lines[number])
            self.assertLessEqual(set(skips[:1]), set(told))
            changed = changed + (skips != told)
        self.assertGreater(len(found), 4)
        self.assertGreater(changed, 5)

    def test_looks_tell_what_is_needless(self):
        # A line that is not needless is shown by a look; one that is, by none of those gone through.
        for seed in range(60):
            lines = some_orders(seed).lines
            told = error_of(needless, Orders(lines))
            if told == ("TooMany", "pair"):
                continue
            for number in told:
                for look in rows_to(4):
                    self.assertEqual(told_said(lines, look), told_said(with_skip(lines, number), look))
            for number, line in enumerate(lines):
                breach = ReaderPair(reader_of(Orders(lines)), reader_of(Orders(with_skip(lines, number)))).breach
                if breach is not None:
                    self.assertNotEqual(told_said(lines, breach), told_said(with_skip(lines, number), breach))
                    self.assertNotIn(number, told)


class TestTooMany(unittest.TestCase):
    def test_situations_of_the_orders(self):
        many = (("pass", 9),) * 12 + (("name", "a"),)
        self.assertEqual(error_of(reader_of, Orders(many)), ("TooMany", "situation"))
        self.assertEqual(error_of(needless, Orders(many)), ("TooMany", "situation"))
        self.assertEqual(error_of(lean_orders, Orders(many)), ("TooMany", "situation"))
        fewer = (("pass", 9),) * 11 + (("name", "a"),)
        self.assertEqual(len(reader_of(Orders(fewer))), 1 + 98 * 4 + 1)
        self.assertEqual(needless(Orders(fewer)), ())
        self.assertEqual(lean_orders(Orders(fewer)).lines, fewer)

    def test_situations_of_orders_with_a_skip(self):
        # The first line keeps one from the many situations behind it.
        lines = (("name", "b"),) + (("pass", 9),) * 12 + (("name", "a"),)
        self.assertEqual(len(reader_of(Orders(lines))), 1)
        self.assertEqual(error_of(reader_of, Orders(with_skip(lines, 0))), ("TooMany", "situation"))
        self.assertEqual(error_of(needless, Orders(lines)), ("TooMany", "situation"))
        self.assertEqual(error_of(lean_orders, Orders(lines)), ("TooMany", "situation"))

    def test_pairs(self):
        # Rounds of 30 and of 23 beats: no word comes in either, but there are 690 pairs for each last beat.
        lines = (("pass", 7), ("pass", 9), ("pass", 9), ("pass", 5), ("go", 0))
        self.assertEqual(error_of(ReaderPair, reader_of(Orders(lines)), reader_of(Orders(with_skip(lines, 0)))),
                         ("TooMany", "pair"))
        self.assertEqual(error_of(needless, Orders(lines)), ("TooMany", "pair"))
        self.assertEqual(error_of(lean_orders, Orders(lines)), ("TooMany", "pair"))
        # Rounds of 12 and of 5 beats are few enough; so are all others here.
        few = (("pass", 7), ("pass", 5), ("go", 0))
        self.assertEqual(needless(Orders(few)), (0, 1, 2))

    def test_only_what_is_still_to_be_compared(self):
        # Without its first line nothing is said either; with both passes there, others would have too many pairs.
        lines = (("go", 5), ("pass", 7), ("pass", 9), ("pass", 9), ("pass", 5), ("go", 0))
        self.assertEqual(error_of(ReaderPair, reader_of(Orders(with_skip(lines, 0))), reader_of(Orders(
            with_skip(with_skip(lines, 0), 1)))), ("TooMany", "pair"))
        self.assertEqual(needless(Orders(lines)), (0, 1, 2, 3, 4, 5))
        self.assertEqual(error_of(lean_orders, Orders(lines)), ("TooMany", "pair"))
        self.assertEqual(needless(Orders((("skip",),) * 20)), ())


if __name__ == "__main__":
    unittest.main()
