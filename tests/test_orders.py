"""Points 30, 31 and 32: orders for a look-out, their lines, and what is said."""

import random
import unittest

from falseglim.orders import Orders, read_orders, write_orders
from tests.helpers import ODD, error_of, listed, rows_to
from tests.lookouts import EXAMPLE, some_orders, told_said

TEXT = ("wait . 3", "count grw . 3", "more 3 5", "more 2 6", "go 0", "name anna", "name bell")
# Lines of orders with at least two lines.
LINES = [("wait", ".", 1), ("wait", ".grw", 9), ("wait", "gw", 4), ("count", "w", ".", 1), ("count", ".grw", ".grw", 9),
         ("count", "gr", "rw", 2), ("pass", 1), ("pass", 9), ("more", 1, 0), ("more", 9, 1), ("last", ".", 0),
         ("last", ".gw", 1), ("go", 0), ("go", 1), ("name", "a"), ("name", "0"), ("name", "abcdefgh"), ("skip",)]
NO_SIGNS = ("", "wg", "..", "ww", ".x", "W", None, 1, True, ("w",), [".", "w"], ".grww")
NO_SMALL = (0, 10, -1, True, False, None, "1", 1.0, (1,), 10 ** 39)
NO_LINES = (2, -1, True, False, None, "0", 0.0, (0,), 10 ** 39)
NO_NAMES = ("", "A", "abcdefghi", "a b", "-", None, 1, True, ("a",), b"a")
WRONG = [odd for odd in ODD] + (
    [("wait", signs, 1) for signs in NO_SIGNS] + [("wait", ".", times) for times in NO_SMALL]
    + [("count", signs, ".", 1) for signs in NO_SIGNS] + [("count", ".", signs, 1) for signs in NO_SIGNS]
    + [("count", ".", "w", times) for times in NO_SMALL] + [("pass", beats) for beats in NO_SMALL]
    + [("more", number, 0) for number in NO_SMALL] + [("more", 1, line) for line in NO_LINES]
    + [("last", signs, 0) for signs in NO_SIGNS] + [("last", "w", line) for line in NO_LINES]
    + [("go", line) for line in NO_LINES] + [("name", mark) for mark in NO_NAMES]
    + ["skip", ("skip", 1), ("skip", None), ("Skip",), ("stop",), (None,), (("skip",),), ("wait",), ("wait", "."),
       ("wait", ".", 1, 1), ("wait", 1, "."), ("count", ".", 1), ("count", ".", "w"), ("count", ".", "w", 1, 1), ("pass",),
       ("pass", 1, 1), ("more", 1), ("more", 1, 0, 0), ("more",), ("last", "w"), ("last", 0), ("last", "w", 0, 0), ("go",),
       ("go", 0, 0), ("name",), ("name", "a", "b"), {"skip": 1}, {0: "skip"}, b"skip", ([],), ({},)])


class TestOrders(unittest.TestCase):
    def test_attributes(self):
        orders = Orders([list(line) for line in EXAMPLE])
        self.assertEqual(orders.lines, EXAMPLE)
        self.assertIsInstance(orders.lines, tuple)
        self.assertIsInstance(orders.lines[0], tuple)
        self.assertEqual(len(orders), 7)
        self.assertEqual(list(orders), list(EXAMPLE))
        self.assertEqual([orders[number] for number in range(7)], list(EXAMPLE))

    def test_no_line(self):
        orders = Orders(EXAMPLE)
        for odd in [thing for thing in ODD if not (type(thing) is int and thing == 0)] + [7, -1, -7, 10 ** 39, "0", 0.0]:
            told = error_of(lambda: orders[odd])
            self.assertEqual(told[0], "NoLine")
            self.assertIs(told[1], odd)

    def test_equal_orders(self):
        self.assertEqual(Orders(EXAMPLE), Orders(listed(EXAMPLE)))
        self.assertNotEqual(Orders(EXAMPLE), Orders(EXAMPLE[:6] + (("name", "anna"),)))
        self.assertNotEqual(Orders((("skip",),)), Orders((("skip",), ("skip",))))
        for odd in ODD + (EXAMPLE,):
            self.assertIs(Orders(EXAMPLE) == odd, False)

    def test_each_line(self):
        for line in LINES:
            self.assertEqual(Orders((line, ("skip",))).lines[0], line)
            self.assertEqual(Orders([("skip",), list(line)]).lines[1], line)

    def test_wrong_lines(self):
        for odd in WRONG:
            self.assertEqual(error_of(Orders, (odd, ("skip",))), ("BadOrder", 0), odd)
            self.assertEqual(error_of(Orders, [("skip",), odd]), ("BadOrder", 1), odd)
            self.assertEqual(error_of(Orders, (("skip",), odd, None, ("go", 9))), ("BadOrder", 1)
                             if odd not in (("go", 2), ("more", 1, 2), ("last", "w", 2)) else ("BadOrder", 2))
        # A line told may be a later one, and the line itself; but there are only so many.
        self.assertEqual(Orders((("go", 2), ("go", 1), ("go", 0)))[0], ("go", 2))
        self.assertEqual(error_of(Orders, (("go", 0), ("go", 3), ("go", 2))), ("BadOrder", 1))

    def test_numbers_of_lines(self):
        self.assertEqual(len(Orders((("skip",),))), 1)
        self.assertEqual(len(Orders([("go", 19)] * 20)), 20)
        self.assertEqual(error_of(Orders, (("go", 20),) * 20), ("BadOrder", 0))
        for odd in [thing for thing in ODD if thing not in ((0,), ("g",), (None, None))] + [
                (("skip",),) * 21, [None] * 21, "skip", {("skip",): 1}]:
            self.assertEqual(error_of(Orders, odd), ("BadOrder", -1))


class TestSaid(unittest.TestCase):
    def said(self, lines, look):
        told = Orders(lines).said(look)
        self.assertEqual(told, told_said(lines, look))
        return told

    def test_the_example(self):
        self.assertIsNone(self.said(EXAMPLE, ""))
        self.assertEqual(self.said(EXAMPLE, "...w.w..."), ("bell", 9))
        self.assertEqual(self.said(EXAMPLE, "...w.ww.r..."), ("anna", 12))
        self.assertIsNone(self.said(EXAMPLE, "...w.w.."))
        # For one flash the look-out begins anew.
        self.assertIsNone(self.said(EXAMPLE, "...ww..."))
        self.assertEqual(self.said(EXAMPLE, "...ww......g.r..."), ("bell", 17))
        # What comes behind the word does not matter; the beats are those looked at when it was said.
        self.assertEqual(self.said(EXAMPLE, "...w.w...wwww"), ("bell", 9))
        self.assertEqual(self.said(EXAMPLE, "...w.w..." + "w" * 391), ("bell", 9))

    def test_wait(self):
        lines = (("wait", "gw", 2), ("name", "a"))
        self.assertEqual(self.said(lines, "gw"), ("a", 2))
        self.assertIsNone(self.said(lines, "g.w.g.w.g"))
        self.assertEqual(self.said(lines, ".g.wgw"), ("a", 5))
        # The beats must all have been looked at in this line.
        self.assertEqual(self.said((("wait", "w", 2), ("wait", "w", 2), ("name", "a")), "wwww"), ("a", 4))
        self.assertIsNone(self.said((("wait", "w", 2), ("wait", "w", 2), ("name", "a")), "www"))

    def test_count(self):
        lines = (("count", "w", ".", 2), ("more", 2, 3), ("go", 0), ("name", "a"))
        self.assertEqual(self.said(lines, "w.w.."), ("a", 5))
        self.assertIsNone(self.said(lines, "ww.."))
        self.assertIsNone(self.said(lines, "wgw"))
        # Green is none of its signs: behind it another flash begins.
        self.assertEqual(self.said(lines, "wgw.."), ("a", 5))
        # The count is 0 when the line begins again; the first beat of a line always counts.
        self.assertIsNone(self.said(lines, "w..w.."))
        both = (("count", "w", "w", 1), ("count", "w", "w", 2), ("more", 1, 4), ("skip",), ("name", "a"))
        self.assertEqual(self.said(both, "www"), ("a", 3))
        # A sign can be counted and stop at once; the dark ones can be counted.
        self.assertEqual(self.said((("count", ".", ".g", 3), ("more", 2, 3), ("name", "b"), ("name", "a")), ".g."), ("a", 3))
        self.assertEqual(self.said((("count", ".", ".g", 3), ("more", 2, 3), ("name", "b"), ("name", "a")), "..g"), ("b", 3))

    def test_the_count_never_grows_above_nine(self):
        lines = (("count", "w", "g", 1), ("more", 9, 3), ("name", "b"), ("name", "a"))
        self.assertEqual(self.said(lines, "w." * 8 + "g"), ("b", 17))
        self.assertEqual(self.said(lines, "w." * 9 + "g"), ("a", 19))
        self.assertEqual(self.said(lines, "w." * 30 + "g"), ("a", 61))

    def test_pass(self):
        for beats in range(1, 10):
            lines = (("pass", beats), ("name", "a"))
            self.assertIsNone(self.said(lines, "w" * (beats - 1)))
            self.assertEqual(self.said(lines, "w" * beats), ("a", beats))

    def test_more_ahead_of_any_count(self):
        self.assertEqual(self.said((("more", 1, 2), ("name", "b"), ("name", "a")), ""), ("b", 0))
        self.assertEqual(self.said((("pass", 3), ("more", 1, 3), ("name", "b"), ("name", "a")), "www"), ("b", 3))
        # The count lasts across other lines, until a count line begins.
        lines = (("count", "w", ".", 1), ("wait", "g", 1), ("pass", 2), ("more", 1, 5), ("name", "b"), ("name", "a"))
        self.assertEqual(self.said(lines, "w.gww"), ("a", 5))

    def test_last(self):
        self.assertEqual(self.said((("last", ".grw", 2), ("name", "b"), ("name", "a")), "w"), ("b", 0))
        lines = (("pass", 2), ("skip",), ("last", "gw", 4), ("name", "b"), ("name", "a"))
        self.assertEqual([self.said(lines, look) for look in (".w", "g.", "wg", "wr")],
                         [("a", 2), ("b", 2), ("a", 2), ("b", 2)])

    def test_names_and_ends(self):
        self.assertEqual(self.said((("name", "a"),), ""), ("a", 0))
        self.assertEqual(self.said((("name", "a"),), "w."), ("a", 0))
        for lines in ((("skip",),), (("pass", 1),), (("pass", 2), ("skip",))):
            for look in ("", "w", "wwww"):
                self.assertIsNone(self.said(lines, look))
        self.assertEqual(self.said((("skip",), ("go", 3), ("name", "b"), ("name", "a")), "w"), ("a", 0))

    def test_going_round(self):
        for lines in ((("go", 0), ("name", "a")), (("skip",), ("go", 0), ("name", "a")),
                      (("go", 1), ("go", 2), ("go", 0), ("name", "a")),
                      (("wait", "w", 1), ("last", "w", 1), ("name", "a"))):
            for look in ("", "w", "w.w.w"):
                self.assertIsNone(self.said(lines, look))
        # With a beat between, a line can come again.
        lines = (("pass", 1), ("last", "g", 3), ("go", 0), ("name", "a"))
        self.assertEqual(self.said(lines, "w.wrg"), ("a", 5))

    def test_against_a_second_look_out(self):
        words = {}
        for seed in range(300):
            orders = some_orders(seed)
            chance = random.Random(seed)
            looks = list(rows_to(2)) + ["".join(chance.choice(".gw") for _ in range(12)) for _ in range(8)]
            for look in looks:
                told = told_said(orders.lines, look)
                self.assertEqual(orders.said(look), told)
                if told:
                    words[told[1]] = words.get(told[1], 0) + 1
        self.assertGreater(len(words), 6)

    def test_looks(self):
        orders = Orders((("wait", "w", 9), ("name", "a")))
        self.assertEqual(orders.said("." * 391 + "w" * 9), ("a", 400))
        self.assertIsNone(orders.said("." * 400))
        for odd in [thing for thing in ODD if not isinstance(thing, str)] + [("w",), ["w"], b"w", "w" * 401, "x" * 401]:
            self.assertEqual(error_of(orders.said, odd), ("BadRow", -1))
        self.assertEqual(error_of(orders.said, "w.x"), ("BadRow", 2))
        # Also where the word has been said before.
        self.assertEqual(error_of(Orders((("name", "a"),)).said, "x"), ("BadRow", 0))


class TestLines(unittest.TestCase):
    def test_the_example(self):
        self.assertEqual(write_orders(Orders(EXAMPLE)), TEXT)
        self.assertEqual(read_orders(TEXT), Orders(EXAMPLE))
        self.assertEqual(read_orders(list(TEXT)), Orders(EXAMPLE))

    def test_there_and_back(self):
        for line in LINES:
            orders = Orders((line, ("skip",)))
            lines = write_orders(orders)
            self.assertIsInstance(lines, tuple)
            self.assertEqual(lines, (" ".join(str(word) for word in line), "skip"))
            self.assertEqual(read_orders(lines), orders)
        for seed in range(60):
            orders = some_orders(seed)
            self.assertEqual(read_orders(write_orders(orders)), orders)

    def test_bad_lines(self):
        for line, word in (
                ("", 0), ("stop", 0), ("Skip", 0), (" skip", 0), ("skip ", 1), ("skip 1", 1), ("wait", 1), ("wait .", 2),
                ("wait . 0", 2), ("wait . 10", 2), ("wait . 01", 2), ("wait . x", 2), ("wait . 1 1", 3), ("wait wg 1", 1),
                ("wait .. 1", 1), ("wait x 1", 1), ("wait  1", 1), ("wait . 1 ", 3), ("wait .grww 1", 1), ("count", 1),
                ("count w", 2), ("count w .", 3), ("count w . 0", 3), ("count w 1", 2), ("count ww . 1", 1),
                ("count w .. 1", 2), ("count w . 1 1", 4), ("pass", 1), ("pass 0", 1), ("pass 12", 1), ("pass 1 1", 2),
                ("more", 1), ("more 1", 2), ("more 0 0", 1), ("more 10 0", 1), ("more 1 20", 2), ("more 1 00", 2),
                ("more 1 -1", 2), ("more 1 1 1", 3), ("last", 1), ("last w", 2), ("last w 20", 2), ("last gw. 0", 1),
                ("last w 0 0", 3), ("go", 1), ("go 20", 1), ("go 01", 1), ("go x", 1), ("go 0 0", 2), ("name", 1), ("name -", 1),
                ("name A", 1), ("name abcdefghi", 1), ("name ", 1), ("name a b", 2), ("name a ", 2)):
            self.assertEqual(error_of(read_orders, (line,)), ("BadLine", 0, word), line)
            self.assertEqual(error_of(read_orders, ("skip", line, None)), ("BadLine", 1, word), line)
        for odd in (None, 0, "skip", {}, True):
            self.assertEqual(error_of(read_orders, odd), ("BadLine", 0, 0))
        for odd in (7, None, ("skip",), ["skip"], b"skip"):
            self.assertEqual(error_of(read_orders, ("skip", odd)), ("BadLine", 1, 0))

    def test_bad_orders_when_all_is_read(self):
        self.assertEqual(error_of(read_orders, ()), ("BadOrder", -1))
        self.assertEqual(error_of(read_orders, ("skip",) * 21), ("BadOrder", -1))
        self.assertEqual(error_of(read_orders, ("skip",) * 21 + ("x",)), ("BadLine", 21, 0))
        for line in ("go 2", "more 9 19", "last w 2"):
            self.assertEqual(error_of(read_orders, ("skip", line)), ("BadOrder", 1))
            self.assertEqual(error_of(read_orders, ("skip", line, "x")), ("BadLine", 2, 0))
        self.assertEqual(len(read_orders(("go 19",) * 20)), 20)


if __name__ == "__main__":
    unittest.main()
