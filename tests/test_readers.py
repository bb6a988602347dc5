"""Point 33: readers, and those of orders and of minds."""

import random
import unittest

from falseglim.eyes import Eye
from falseglim.makers import either, ring
from falseglim.minds import Mind
from falseglim.orders import Orders
from falseglim.readers import Reader, reader_of, reader_of_mind
from falseglim.weathers import eye_of
from falseglim.worlds import World
from tests.helpers import (ODD, SIGNS, error_of, knowledge_step, least_ways, listed, rows_to, some_eye, some_world,
                           standings_behind, sure_of)
from tests.lookouts import EXAMPLE, some_orders, told_rows, told_said

LOOP = (0, 0, 0, 0)
ROWS = (("", (0, 1, 2, 0)), ("", (0, 1, 2, 2)), ("anna", (0, 1, 2, 0)))


def circle(many):
    """The rows of a reader that says nothing and goes round."""
    return tuple(("", ((number + 1) % many,) * 4) for number in range(many))


class TestReader(unittest.TestCase):
    def test_attributes(self):
        reader = Reader(listed(ROWS))
        self.assertEqual(reader.rows, ROWS)
        self.assertIsInstance(reader.rows, tuple)
        self.assertIsInstance(reader.rows[0], tuple)
        self.assertIsInstance(reader.rows[0][1], tuple)
        self.assertEqual(len(reader), 3)
        self.assertEqual(list(reader), list(ROWS))

    def test_equal_readers(self):
        self.assertEqual(Reader(ROWS), Reader(listed(ROWS)))
        self.assertNotEqual(Reader(ROWS), Reader(ROWS[:2] + (("bell", LOOP),)))
        self.assertNotEqual(Reader((("", LOOP),)), Reader((("", LOOP), ("", LOOP))))
        for odd in ODD + (ROWS,):
            self.assertIs(Reader(ROWS) == odd, False)

    def test_what_it_says(self):
        reader = Reader(ROWS)
        for look, told in (("", None), (".", None), ("w.", None), ("r", ("anna", 1)), ("rg.", ("anna", 1)),
                           ("gw", ("anna", 2)), ("g.w", None), ("g.gwg", ("anna", 4)), ("gg", None), ("ww.gr", ("anna", 5))):
            self.assertEqual(reader(look), told)
        self.assertEqual(reader("w" * 399 + "r"), ("anna", 400))
        # What its states lead to behind a word does not matter.
        self.assertEqual(Reader((("a", (1, 1, 1, 1)), ("b", LOOP)))("w"), ("a", 0))
        self.assertEqual(Reader((("a", LOOP),))(""), ("a", 0))
        self.assertEqual(Reader((("", (1, 1, 1, 1)), ("0", (2, 2, 2, 2)), ("b", LOOP)))("ww"), ("0", 1))

    def test_looks(self):
        for rows in (ROWS, (("a", LOOP),)):
            reader = Reader(rows)
            for odd in [thing for thing in ODD if not isinstance(thing, str)] + [("w",), ["w"], b"w", "w" * 401, "x" * 401]:
                self.assertEqual(error_of(reader, odd), ("BadRow", -1))
            self.assertEqual(error_of(reader, "wr.x"), ("BadRow", 3))

    def test_numbers_of_states(self):
        self.assertEqual(len(Reader((("", LOOP),))), 1)
        self.assertEqual(len(Reader(circle(400))), 400)
        self.assertEqual(error_of(Reader, circle(401)), ("BadReader", -1))
        self.assertEqual(error_of(Reader, [None] * 401), ("BadReader", -1))
        for odd in [thing for thing in ODD if thing not in ((0,), ("g",), (None, None))] + ["", "ab", {("", LOOP): 1}]:
            self.assertEqual(error_of(Reader, odd), ("BadReader", -1))

    def test_wrong_states(self):
        for odd in ODD + (("", ), ("", LOOP, 0), (LOOP, ""), ("A", LOOP), ("abcdefghi", LOOP), ("-", LOOP), (None, LOOP),
                          (0, LOOP), (("",), LOOP), ("", (0, 0, 0)), ("", (0,) * 5), ("", (0, 0, 0, 2)), ("", (0, 0, 0, -1)),
                          ("", (True, 0, 0, 0)), ("", (0, False, 0, 0)), ("", (0, 0, None, 0)), ("", (0, 0, 0, "0")),
                          ("", (0, 0, 0, 0.0)), ("", "0000"), ("", 0), ("", None), ("", {0: 1, 1: 1, 2: 1, 3: 1}), {"": LOOP}):
            self.assertEqual(error_of(Reader, (odd, ("", LOOP))), ("BadReader", 0))
            self.assertEqual(error_of(Reader, [("", LOOP), odd]), ("BadReader", 1))
        self.assertEqual(error_of(Reader, [("", [0, 2, 1, 1]), ("", (0, 0, 0, 3)), None]), ("BadReader", 1))


class TestReaderOfOrders(unittest.TestCase):
    def test_the_example(self):
        reader = reader_of(Orders(EXAMPLE))
        self.assertEqual(reader.rows, told_rows(EXAMPLE))
        for look in ("", "...w.w...", "...w.ww.r...", "...ww......g.r...", "...w.w...wwww", "...w.w.."):
            self.assertEqual(reader(look), told_said(EXAMPLE, look))

    def test_situations(self):
        self.assertEqual(reader_of(Orders((("name", "a"),))).rows, (("a", LOOP),))
        self.assertEqual(reader_of(Orders((("skip",), ("go", 0)))).rows, (("", LOOP),))
        # The last beat belongs to the situation, also where no line asks for it.
        self.assertEqual(reader_of(Orders((("pass", 2), ("name", "a")))).rows,
                         (("", (1, 2, 3, 4)),) + (("", (5,) * 4),) * 4 + (("a", (5,) * 4),))
        # Each mark said is one situation, wherever it is said; having ended is one, too, and so is going round.
        rows = reader_of(Orders((("pass", 1), ("last", "g", 5), ("last", "r", 6), ("last", ".", 7), ("go", 8), ("name", "a"),
                                 ("name", "a"), ("go", 7), ("skip",)))).rows
        self.assertEqual(rows, (("", (1, 2, 2, 1)), ("", (1,) * 4), ("a", (2,) * 4)))

    def test_against_a_second_look_out(self):
        sizes = set()
        for seed in range(150):
            orders = some_orders(seed)
            reader = reader_of(orders)
            self.assertEqual(reader.rows, told_rows(orders.lines))
            sizes.add(len(reader))
            chance = random.Random(seed)
            for look in list(rows_to(2)) + ["".join(chance.choice(".gw") for _ in range(12)) for _ in range(5)]:
                self.assertEqual(reader(look), told_said(orders.lines, look))
        self.assertGreater(len(sizes), 15)

    def test_four_hundred_situations(self):
        lines = (("count", ".r", "r", 9), ("pass", 9), ("name", "a"))
        self.assertEqual(len(reader_of(Orders(lines))), 400)
        self.assertEqual(len(told_rows(lines)), 400)
        more = (("count", "grw", "r", 9), ("wait", "gw", 9), ("count", ".gr", "r", 3), ("wait", ".", 8))
        self.assertEqual(len(told_rows(more)), 401)
        self.assertEqual(error_of(reader_of, Orders(more)), ("TooMany", "situation"))
        self.assertEqual(error_of(reader_of, Orders((("count", ".w", "r", 9),) * 20)), ("TooMany", "situation"))


class TestReaderOfMind(unittest.TestCase):
    def told(self, mind):
        """The states of the reader of a mind, by the words of the document."""
        def situation(knowledge):
            sure = sure_of(mind, knowledge)
            return ("", knowledge) if sure is None else (sure, ())

        def follow(place):
            word, knowledge = place
            return [(sign, place if word else situation(knowledge_step(mind, knowledge, sign))) for sign in SIGNS]

        looks = least_ways([situation(tuple((state, 0) for state in mind.world.begins))], follow)
        numbers = {place: number for number, place in enumerate(looks)}
        return tuple((place[0], tuple(numbers[later] for _, later in follow(place))) for place in looks)

    def test_a_mind(self):
        mind = Mind(either(ring("w..", "a"), ring("w...", "b")), Eye.fair())
        reader = reader_of_mind(mind)
        self.assertEqual(reader.rows, self.told(mind))
        self.assertEqual(reader("w..w"), ("a", 4))
        self.assertEqual(reader("w..wgg"), ("a", 4))
        self.assertEqual(reader("..."), ("b", 3))
        self.assertIsNone(reader("w.."))
        # Amiss, it says nothing for ever.
        self.assertIsNone(reader("ggw..w"))

    def test_a_mind_that_is_sure_at_once(self):
        self.assertEqual(reader_of_mind(Mind(ring("w", "a"), Eye.fair())).rows, (("a", LOOP),))
        doubt = reader_of_mind(Mind(ring("w", ""), Eye.fair()))
        self.assertEqual(doubt.rows, (("", (1, 1, 1, 0)), ("", (1,) * 4)))

    def test_what_it_says(self):
        for seed in range(60):
            mind = Mind(some_world(seed, 2 + seed % 4), some_eye(seed, 1 + seed % 3))
            reader = reader_of_mind(mind)
            self.assertEqual(reader.rows, self.told(mind))
            for look in rows_to(3):
                words = [sure_of(mind, standings_behind(mind.world, mind.eye, look[:many])) for many in range(len(look) + 1)]
                told = next(((word, beats) for beats, word in enumerate(words) if word is not None), None)
                self.assertEqual(reader(look), told)

    def test_weather(self):
        mind = Mind(either(ring("w.", "a"), ring("ww", "b")), eye_of((("lose", 1),)))
        self.assertEqual(reader_of_mind(mind).rows, self.told(mind))

    def test_four_hundred_situations(self):
        def mind_of(ahead):
            # Behind some beats the world goes round in 19 states, the eye in 20: 380 knowledges, and those ahead.
            eye = Eye([(state, sign, sign, state + 1 if state < 24 else 5) for state in range(25) for sign in SIGNS])
            states = 19 + ahead
            goes = [(state + 1,) for state in range(states - 1)] + [(ahead,)]
            return Mind(World("w" * states, goes, (0,), ("",) * states), eye)

        # Being amiss is one situation more.
        self.assertEqual(len(reader_of_mind(mind_of(5))), 386)
        self.assertEqual(len(reader_of_mind(mind_of(19))), 400)
        self.assertEqual(error_of(reader_of_mind, mind_of(20)), ("TooMany", "situation"))


if __name__ == "__main__":
    unittest.main()
