"""Points 52 and 10: the journal of an office."""

import random
import unittest

from falseglim.errors import (BadLight, BadLine, BadOrder, BadText, BadWeather, InUse, TooLong, TooMany, Torn, Twice,
                              Unknown)
from falseglim.journal import read_journal, taken_up, write_journal
from falseglim.office import Office
from tests.helpers import ODD, error_of
from tests.lookouts import EXAMPLE
from tests.test_coasts import NO_TUPLES
from tests.test_office import busy_office, some_office

LINES = ("round slow w3.", "round fast w.w.", "weather haze", "lose 1", "glow", "end", "orders look", "wait . 3",
         "count grw . 3", "more 3 5", "more 2 6", "go 0", "name anna", "name bell", "end", "coast west", "light anna slow",
         "light bell fast", "end")
# The numbers of the first lines of its deeds, and the number of all lines.
STARTS = (0, 1, 2, 6, 15, 19)


def torn_by(lines):
    """The number told by `Torn`, and the name and what is borne of what caused it."""
    try:
        return read_journal(lines)
    except Torn as error:
        cause = error.__cause__
        return (error.line, type(cause).__name__) + tuple(vars(cause).values())


class TestJournal(unittest.TestCase):
    def test_there_and_back(self):
        office = some_office()
        self.assertEqual(write_journal(office), LINES)
        self.assertIsInstance(write_journal(office), tuple)
        self.assertEqual(read_journal(LINES), office)
        self.assertIsInstance(read_journal(LINES), Office)
        self.assertEqual(list(read_journal(list(LINES))), list(office))
        self.assertEqual(write_journal(Office()), ())
        self.assertEqual(read_journal(()), Office())
        self.assertEqual(read_journal([]), Office())

    def test_deeds_about_things_that_were_struck(self):
        office = Office()
        office.keep_round("a", "w.")
        office.keep_coast("c", (("x", "a"),))
        office.strike("c")
        office.strike("a")
        office.keep_weather("a", ())
        office.keep_coast("c", ())
        lines = ("round a w.", "coast c", "light x a", "end", "strike c", "strike a", "weather a", "end", "coast c", "end")
        self.assertEqual(write_journal(office), lines)
        again = read_journal(lines)
        self.assertEqual(again, office)
        self.assertEqual((again.deeds, list(again), again["a"]), (6, ["a", "c"], ()))

    def test_drawn_offices(self):
        struck = 0
        for seed in range(60):
            office = busy_office(seed)
            lines = write_journal(office)
            again = read_journal(lines)
            self.assertEqual(again, office)
            self.assertEqual(write_journal(again), lines)
            self.assertEqual([(name, again.kind_of(name), again[name]) for name in again],
                             [(name, office.kind_of(name), office[name]) for name in office])
            self.assertEqual(taken_up(lines), (office, len(lines)))
            struck = struck + len([line for line in lines if line.startswith("strike")])
        self.assertGreater(struck, 60)

    def test_texts(self):
        office = read_journal(("round a w@4&..g.", "coast c", "light x a", "end"))
        self.assertEqual((office["a"], office["c"].lights), ("w.g.", (("x", "w.g."),)))

    def test_names_like_words(self):
        office = Office()
        for name in ("end", "round", "strike", "light", "coast"):
            office.keep_round(name, "w")
        office.keep_coast("weather", (("end", "end"), ("light", "strike")))
        self.assertEqual(read_journal(write_journal(office)), office)


class TestTorn(unittest.TestCase):
    def test_things_that_are_no_lines(self):
        for odd in NO_TUPLES + (LINES[0], {0: LINES[0]}):
            self.assertEqual(torn_by(odd), (0, "BadLine", 0, 0))
            self.assertEqual(taken_up(odd), (Office(), 0))
        for odd in (None, 0, True, ("strike", "slow"), b"strike slow", object()):
            for at in range(len(LINES) + 1):
                start = max(start for start in STARTS if start <= at)
                self.assertEqual(torn_by(LINES[:at] + (odd,) + LINES[at:]), (start, "BadLine", at, 0))

    def test_lines_that_end_too_early(self):
        for many in range(len(LINES)):
            start = max(start for start in STARTS if start <= many)
            if many in STARTS:
                self.assertIsInstance(read_journal(LINES[:many]), Office)
            else:
                self.assertEqual(torn_by(LINES[:many]), (start, "BadLine", many, 0))

    def test_first_words(self):
        for first in ("", "Round", "rounds", "end", "-", "light", "lose", "wait", "weathers", "office"):
            self.assertEqual(torn_by(LINES + (first + " x w",)), (19, "BadLine", 19, 0))
        # Within a thing: words of another kind of thing, and of deeds.
        for word in ("", "round", "strike", "light", "wait", "ends", "End", "name"):
            self.assertEqual(torn_by(LINES[:4] + (word + " 1",) + LINES[4:]), (2, "BadLine", 4, 0))
        for word in ("", "round", "strike", "light", "lose", "glow", "ends"):
            self.assertEqual(torn_by(LINES[:8] + (word + " 1",) + LINES[8:]), (6, "BadLine", 8, 0))
        for word in ("", "round", "strike", "wait", "lose", "glow", "ends", "name"):
            self.assertEqual(torn_by(LINES[:17] + (word + " 1",) + LINES[17:]), (15, "BadLine", 17, 0))

    def test_spoilt_words(self):
        for line, word in (("round", 1), ("round x", 2), ("round x w w", 3), ("round  x w", 1), ("round - w", 1), ("round X w", 1),
                           (" round x w", 0), ("round x w ", 3), ("weather", 1), ("weather x y", 2), ("weather -", 1),
                           ("orders", 1), ("orders x ", 2), ("orders abcdefghi", 1), ("coast", 1), ("coast x y", 2), ("coast ", 1),
                           ("strike", 1), ("strike x y", 2), ("strike ?", 1), ("", 0)):
            self.assertEqual(torn_by(LINES + (line, "end")), (19, "BadLine", 19, word), line)
        for start, line, word in ((2, "lose", 1), (2, "lose 0", 1), (2, "lose 1 1", 2), (2, "miss 1", 2), (2, "glow ", 1),
                                  (2, "take . w", 1), (6, "wait w", 2), (6, "wait ww 1", 1), (6, "go 20", 1), (6, "skip 1", 1),
                                  (6, "name -", 1), (15, "light", 1), (15, "light x", 2), (15, "light x slow y", 3),
                                  (15, "light - slow", 1), (15, "light x -", 2), (15, "light x W", 2), (15, "end x", 1),
                                  (2, "end ", 1), (6, "end end", 1)):
            at = {2: 5, 6: 14, 15: 18}[start]
            self.assertEqual(torn_by(LINES[:at] + (line,) + LINES[at:]), (start, "BadLine", at, word), line)

    def test_texts_that_are_refused(self):
        for text, cause in (("w2", BadText), ("", BadText), ("x", BadText), ("25w", BadText), ("24w.", TooLong)):
            with self.assertRaises(Torn) as caught:
                read_journal(LINES + ("round x " + text,))
            self.assertEqual(caught.exception.line, 19)
            bad = caught.exception.__cause__
            self.assertIsInstance(bad, BadLine)
            self.assertEqual((bad.line, bad.word), (19, 2))
            self.assertIsInstance(bad.__cause__, cause)

    def test_things_that_cannot_be_made(self):
        self.assertEqual(torn_by(LINES + ("weather x",) + ("late",) * 7 + ("end",)), (19, "BadWeather", -1))
        self.assertEqual(torn_by(LINES + ("weather x", "late", "miss 2 2", "end")), (19, "BadWeather", 1))
        self.assertEqual(torn_by(LINES + ("weather x", "take g g", "end")), (19, "BadWeather", 0))
        self.assertEqual(torn_by(LINES + ("orders x", "end")), (19, "BadOrder", -1))
        self.assertEqual(torn_by(LINES + ("orders x",) + ("skip",) * 21 + ("end",)), (19, "BadOrder", -1))
        self.assertEqual(torn_by(LINES + ("orders x", "skip", "go 2", "end")), (19, "BadOrder", 1))
        self.assertEqual(torn_by(LINES + ("coast x", "light a slow", "light a fast", "end")), (19, "BadLight", 1))
        nine = tuple(f"light {name} slow" for name in "abcdefghi")
        self.assertEqual(torn_by(LINES + ("coast x",) + nine + ("end",)), (19, "BadLight", -1))
        for lines, cause in ((("weather x", "miss 2 2", "end"), BadWeather), (("orders x", "end"), BadOrder),
                             (("coast x", "light a slow", "light a slow", "end"), BadLight)):
            with self.assertRaises(Torn) as caught:
                read_journal(lines)
            self.assertIsInstance(caught.exception.__cause__, cause)

    def test_deeds_that_are_refused(self):
        for line in ("round slow w", "round haze w"):
            self.assertEqual(torn_by(LINES + (line,)), (19, "Twice", line.split(" ")[1]))
        self.assertEqual(torn_by(LINES + ("weather west", "end")), (19, "Twice", "west"))
        self.assertEqual(torn_by(LINES + ("orders look", "skip", "end")), (19, "Twice", "look"))
        self.assertEqual(torn_by(LINES + ("coast fast", "light x gone", "end")), (19, "Twice", "fast"))
        self.assertEqual(torn_by(LINES + ("coast x", "light x gone", "end")), (19, "Unknown", "gone"))
        self.assertEqual(torn_by(LINES + ("coast x", "light x haze", "end")), (19, "Unknown", "haze"))
        self.assertEqual(torn_by(LINES + ("strike gone",)), (19, "Unknown", "gone"))
        self.assertEqual(torn_by(LINES + ("strike slow",)), (19, "InUse", "west"))
        many = tuple(f"round r{number} w" for number in range(25))
        self.assertEqual(len(read_journal(LINES + many)), 30)
        self.assertEqual(torn_by(LINES + many + ("round x w",)), (44, "TooMany", "thing"))
        self.assertEqual(torn_by(LINES + many + ("coast x", "light x gone", "end")), (44, "Unknown", "gone"))
        for line, cause in (("round slow w", Twice), ("strike gone", Unknown), ("strike slow", InUse)):
            with self.assertRaises(Torn) as caught:
                read_journal(LINES + (line, "round x w"))
            self.assertIsInstance(caught.exception.__cause__, cause)
        with self.assertRaises(Torn) as caught:
            read_journal(LINES + many + ("round x w",))
        self.assertIsInstance(caught.exception.__cause__, TooMany)

    def test_what_is_read_is_made_and_then_added(self):
        # The lines go ahead of the thing, and what is wrong with the thing ahead of what is wrong with its name.
        self.assertEqual(torn_by(LINES + ("weather slow", "miss 2 2", "lose 0", "end")), (19, "BadLine", 21, 1))
        self.assertEqual(torn_by(LINES + ("weather slow", "miss 2 2", "end")), (19, "BadWeather", 0))
        self.assertEqual(torn_by(LINES + ("orders slow", "end")), (19, "BadOrder", -1))
        self.assertEqual(torn_by(LINES + ("coast slow", "light a gone", "light a gone", "end")), (19, "BadLight", 1))
        self.assertEqual(torn_by(LINES + ("weather slow", "late")), (19, "BadLine", 21, 0))
        self.assertEqual(torn_by(LINES + ("round slow wx",)), (19, "BadLine", 19, 2))

    def test_deed_by_deed(self):
        # A deed that is refused goes ahead of a later line that cannot be read.
        self.assertEqual(torn_by(LINES[:1] + ("strike gone", "???") + LINES[1:]), (1, "Unknown", "gone"))
        self.assertEqual(torn_by(LINES[:1] + LINES[:1] + (None,)), (1, "Twice", "slow"))


class TestTakenUp(unittest.TestCase):
    def test_every_beginning(self):
        for many in range(len(LINES) + 1):
            office, taken = taken_up(LINES[:many])
            self.assertEqual(taken, max(start for start in STARTS if start <= many))
            self.assertEqual(office, read_journal(LINES[:taken]))
            self.assertEqual(taken_up(list(LINES[:many])), (office, taken))

    def test_beginnings_of_drawn_journals(self):
        for seed in range(15):
            lines = write_journal(busy_office(seed, 20))
            last = 0
            for many in range(len(lines) + 1):
                whole = not isinstance(error_of(read_journal, lines[:many]), tuple)
                last = many if whole else last
                self.assertEqual(taken_up(lines[:many]), (read_journal(lines[:last]), last))

    def test_what_stands_behind_a_bad_deed(self):
        more = ("round x g", "strike x")
        for bad in ("strike gone", "round slow w", "strike slow", "???", "", None, 0, "round x", "round y wx", ("strike", "x")):
            self.assertEqual(taken_up(LINES + (bad,) + more), (some_office(), 19))
        for bad in (("weather x", "late", "nothing", "end"), ("orders x", "end"), ("coast x", "light a slow", "light a slow", "end"),
                    ("weather slow", "end"), ("coast x", "light a gone", "end")):
            self.assertEqual(taken_up(LINES + bad + more), (some_office(), 19))
        # Within the journal.
        self.assertEqual(taken_up(LINES[:6] + ("glow",) + LINES[6:])[1], 6)
        self.assertEqual(taken_up(LINES[:3] + LINES[4:])[1], 19 - 1)

    def test_odd_things(self):
        for odd in ODD:
            self.assertEqual(taken_up(odd), (Office(), 0))
        for odd in ODD:
            self.assertEqual(taken_up((odd,)), (Office(), 0))
            self.assertEqual(taken_up(LINES[:1] + (odd,) + LINES[1:]), (read_journal(LINES[:1]), 1))

    def test_drawn_spoilt_lines(self):
        chance = random.Random(7)
        for seed in range(60):
            lines = list(write_journal(busy_office(seed % 20)))
            if not lines:
                continue
            at = chance.randrange(len(lines))
            lines[at] = chance.choice((None, "", "end", lines[at] + " x", lines[at][1:], "strike a", "round a w", "late", "go 0"))
            office, taken = taken_up(lines)
            self.assertEqual(read_journal(lines[:taken]), office)
            told = error_of(read_journal, lines)
            if isinstance(told, Office):
                self.assertEqual((told, len(lines)), (office, taken))
            else:
                self.assertEqual(told, ("Torn", taken))

    def test_the_lines_are_not_changed(self):
        lines = list(LINES)
        taken_up(lines)
        read_journal(lines)
        self.assertEqual(lines, list(LINES))
        self.assertEqual(write_journal(read_journal(LINES))[7], "wait . 3")
        self.assertEqual(read_journal(LINES)["look"].lines, EXAMPLE)


if __name__ == "__main__":
    unittest.main()
