"""Points 43 and 10: notices, what is in force, charts, and the lines of notices."""

import itertools
import random
import unittest

from falseglim.coasts import Coast
from falseglim.errors import BadLine, BadText, TooLong
from falseglim.notices import Notices, read_notices, write_notices
from falseglim.signs import SIGNS
from tests.helpers import ODD, error_of, listed
from tests.test_coasts import NO_NAMES, NO_ROUNDS, NO_TUPLES

OLD = Coast((("anna", "w.."), ("bell", "w...")))
SOME = (("set", "cape", "g."), ("strike", "anna"), ("withdraw", 1), ("set", "anna", "r.."))
LINES = ("set cape g.", "strike anna", "withdraw 1", "set anna r..")
NO_NOTICES = ODD + (
    "set", "strike", ("set",), ("set", "a"), ("set", "a", "w", "w"), ("strike",), ("strike", "a", "w"), ("withdraw",),
    ("withdraw", 0, 0), ("Set", "a", "w"), ("unset", "a"), (("set", "a", "w"),), (None, "a", "w"), ([], "a"), (0, "a"),
    {"set": 1, "a": 2, "w": 3}, ("withdraw", "0"), ("withdraw", None), ("withdraw", True), ("withdraw", False),
    ("withdraw", -1), ("withdraw", 2), ("withdraw", 3), ("withdraw", 7), ("withdraw", 0.0), ("withdraw", (0,)),
    ("withdraw", 10 ** 39), ("", ""), ("set", "w", "a")) + tuple(
        ("set", odd, "w") for odd in NO_NAMES) + tuple(("strike", odd) for odd in NO_NAMES) + tuple(
        ("set", "a", odd) for odd in NO_ROUNDS)


def told_force(notices, lot):
    """What is in force, by going through all lots for the one that fits the words of the document."""
    found = []
    for force in itertools.chain(*[itertools.combinations(lot, many) for many in range(len(lot) + 1)]):
        withdrawn = {notices[number][1] for number in force if notices[number][0] == "withdraw"}
        if all((number in force) == (number not in withdrawn) for number in lot):
            found.append(force)
    assert len(found) == 1
    return found[0]


def told_chart(lights, notices, lot):
    """The lights behind all notices in force, by the words of the document."""
    lights = [list(light) for light in lights]
    for number in told_force(notices, lot):
        told = notices[number]
        if told[0] == "set":
            there = [light for light in lights if light[0] == told[1]]
            if there:
                there[0][1] = told[2]
            else:
                lights.append([told[1], told[2]])
        if told[0] == "strike":
            lights = [light for light in lights if light[0] != told[1]]
    return tuple(tuple(light) for light in lights)


def some_notices(seed, many=None, most=3):
    chance = random.Random(seed)
    many = chance.randint(0, 8) if many is None else many
    found = []
    for number in range(many):
        name = chance.choice("abcd")
        kind = chance.choice(("set", "set", "strike", "withdraw", "withdraw")) if number else "set"
        if kind == "withdraw":
            found.append((kind, chance.randrange(number)))
        elif kind == "strike":
            found.append((kind, name))
        else:
            found.append((kind, name, "".join(chance.choice(SIGNS) for _ in range(chance.randint(1, most)))))
    return tuple(found)


def all_lots(many):
    return sorted(lot for size in range(many + 1) for lot in itertools.combinations(range(many), size))


class TestNotices(unittest.TestCase):
    def test_attributes(self):
        for things in (SOME, listed(SOME), [list(thing) for thing in SOME]):
            notices = Notices(OLD, things)
            self.assertIs(notices.coast, OLD)
            self.assertEqual(notices.notices, SOME)
            self.assertIsInstance(notices.notices, tuple)
            self.assertIsInstance(notices.notices[2], tuple)
            self.assertEqual((len(notices), tuple(notices)), (4, SOME))
        self.assertEqual((len(Notices(OLD, ())), tuple(Notices(OLD, []))), (0, ()))

    def test_lists_are_not_kept(self):
        things = listed(SOME)
        notices = Notices(OLD, things)
        things[0][2] = "x"
        things.pop()
        self.assertEqual(notices, Notices(OLD, SOME))

    def test_equality(self):
        notices = Notices(OLD, SOME)
        self.assertIs(notices == Notices(Coast(OLD.lights), listed(SOME)), True)
        for other in (Notices(Coast(OLD.lights[::-1]), SOME), Notices(OLD, SOME[:3]), Notices(OLD, ()), SOME, OLD, None,
                      4, Notices(OLD, SOME[:3] + (("set", "anna", "r.r"),)), Notices(OLD, (("set", "cape", "gg"),) + SOME[1:])):
            self.assertIs(notices == other, False)
            self.assertIs(notices != other, True)

    def test_eight_notices_and_nine(self):
        eight = (("strike", "a"),) * 8
        self.assertEqual(len(Notices(OLD, eight)), 8)
        self.assertEqual(error_of(Notices, OLD, eight + (("strike", "a"),)), ("BadNotice", -1))
        self.assertEqual(error_of(Notices, OLD, eight + (None,)), ("BadNotice", -1))
        for odd in NO_TUPLES + ("set", {0: SOME[0]}):
            self.assertEqual(error_of(Notices, OLD, odd), ("BadNotice", -1))

    def test_each_form_that_is_spoilt(self):
        for odd in NO_NOTICES:
            self.assertEqual(error_of(Notices, OLD, SOME[:2] + (odd, None)), ("BadNotice", 2), odd)
        # There is nothing earlier that the first one could withdraw.
        self.assertEqual(error_of(Notices, OLD, (("withdraw", 0),)), ("BadNotice", 0))
        self.assertEqual(error_of(Notices, OLD, (SOME[0], ("withdraw", 1))), ("BadNotice", 1))
        self.assertEqual(error_of(Notices, OLD, (SOME[0], ("withdraw", True), None)), ("BadNotice", 1))
        self.assertEqual(len(Notices(OLD, (SOME[0], ("withdraw", 0), ("withdraw", 0), ("withdraw", 2)))), 4)

    def test_in_force(self):
        things = (("set", "a", "w"), ("strike", "b"), ("withdraw", 0), ("withdraw", 2), ("withdraw", 3))
        notices = Notices(OLD, things)
        for lot, force in (((), ()), ((0,), (0,)), ((0, 2), (2,)), ((0, 2, 3), (0, 3)), ((0, 1, 2, 3, 4), (1, 2, 4)),
                           ((2,), (2,)), ((0, 3), (0, 3)), ((0, 2, 4), (2, 4)), ((1, 4), (1, 4))):
            self.assertEqual(notices.in_force(lot), force)
            self.assertEqual(notices.in_force(list(lot)), force)
            self.assertIsInstance(notices.in_force(list(lot)), tuple)
        for lot in all_lots(5):
            self.assertEqual(notices.in_force(lot), told_force(things, lot))

    def test_several_that_withdraw_one(self):
        notices = Notices(OLD, (("set", "a", "w"), ("withdraw", 0), ("withdraw", 0), ("withdraw", 1)))
        self.assertEqual(notices.in_force((0, 1, 2, 3)), (2, 3))
        self.assertEqual(notices.in_force((0, 1, 3)), (0, 3))

    def test_charts(self):
        notices = Notices(OLD, SOME)
        self.assertIsInstance(notices.chart(()), Coast)
        self.assertEqual(notices.chart(()), OLD)
        self.assertEqual(notices.chart((0,)), Coast(OLD.lights + (("cape", "g."),)))
        self.assertEqual(notices.chart([1]), Coast(OLD.lights[1:]))
        self.assertEqual(notices.chart((1, 2)), OLD)
        # Set where it was there, it keeps its place; struck before, it comes to the end.
        self.assertEqual(notices.chart((3,)).lights, (("anna", "r.."), ("bell", "w...")))
        self.assertEqual(notices.chart((1, 3)).lights, (("bell", "w..."), ("anna", "r..")))
        self.assertEqual(notices.chart((0, 1, 3)).lights, (("bell", "w..."), ("cape", "g."), ("anna", "r..")))
        self.assertEqual(notices.true_coast.lights, (("anna", "r.."), ("bell", "w..."), ("cape", "g.")))
        self.assertIsInstance(notices.true_coast, Coast)
        self.assertEqual(Notices(OLD, ()).true_coast, OLD)

    def test_strikes(self):
        self.assertEqual(Notices(OLD, (("strike", "x"),)).true_coast, OLD)
        self.assertEqual(Notices(OLD, (("strike", "anna"), ("strike", "bell"), ("strike", "anna"))).true_coast, Coast(()))
        again = Notices(Coast(()), (("set", "a", "w"), ("set", "b", "g"), ("strike", "a"), ("set", "a", "r"), ("set", "b", ".")))
        self.assertEqual(again.true_coast.lights, (("b", "."), ("a", "r")))

    def test_what_is_returned_belongs_to_the_caller(self):
        notices = Notices(OLD, SOME)
        notices.chart(()).lights = ()
        notices.true_coast.lights = ()
        self.assertEqual(notices.chart(()), OLD)
        self.assertEqual(len(notices.true_coast), 3)
        self.assertEqual(OLD.lights, (("anna", "w.."), ("bell", "w...")))

    def test_against_the_words(self):
        withdrawn = 0
        for seed in range(150):
            things = some_notices(seed)
            coast = Coast((("b", "w."), ("x", "g.")))
            notices = Notices(coast, things)
            for lot in random.Random(seed).sample(all_lots(len(things)), min(20, 2 ** len(things))):
                self.assertEqual(notices.in_force(lot), told_force(things, lot))
                self.assertEqual(notices.chart(lot).lights, told_chart(coast.lights, things, lot))
                withdrawn = withdrawn + (len(notices.in_force(lot)) < len(lot))
            self.assertEqual(notices.true_coast, notices.chart(tuple(range(len(things)))))
        self.assertGreater(withdrawn, 300)

    def test_bad_lots(self):
        notices = Notices(OLD, SOME)
        for odd in [thing for thing in ODD if thing not in ((), (0,), [])] + [
                (1, 0), (0, 0), (4,), (-1,), (0, 4), (True,), (False, 1), ("0",), "0", (None,), {0: 1}, (0.0,), 1, ((0,),)]:
            for call in (notices.in_force, notices.chart):
                told = error_of(call, odd)
                self.assertEqual(told[0], "BadLot")
                self.assertIs(told[1], odd)
        self.assertEqual(error_of(Notices(OLD, ()).chart, (0,)), ("BadLot", (0,)))

    def test_too_many_lights(self):
        eight = Coast([(name, "w") for name in "abcdefgh"])
        notices = Notices(eight, (("set", "i", "g"), ("strike", "a"), ("withdraw", 1)))
        self.assertEqual(error_of(notices.chart, (0,)), ("TooMany", "light"))
        # There may be nine of them on the way: what counts is the chart behind all notices.
        self.assertEqual(notices.chart((0, 1)).lights, eight.lights[1:] + (("i", "g"),))
        self.assertEqual(error_of(notices.chart, (0, 1, 2)), ("TooMany", "light"))
        self.assertEqual(error_of(lambda: notices.true_coast), ("TooMany", "light"))
        self.assertEqual(error_of(notices.chart, (0, 3)), ("BadLot", (0, 3)))
        self.assertEqual(notices.in_force((0, 1, 2)), (0, 2))
        self.assertEqual(len(Notices(eight, (("set", "a", "g"),)).true_coast), 8)


class TestLines(unittest.TestCase):
    def bad(self, lines, line, word):
        self.assertEqual(error_of(read_notices, OLD, lines), ("BadLine", line, word), lines)

    def test_there_and_back(self):
        notices = Notices(OLD, SOME)
        self.assertEqual(write_notices(notices), LINES)
        self.assertIsInstance(write_notices(notices), tuple)
        self.assertEqual(read_notices(OLD, LINES), notices)
        self.assertIs(read_notices(OLD, list(LINES)).coast, OLD)
        self.assertEqual(write_notices(Notices(OLD, ())), ())
        self.assertEqual(read_notices(OLD, ()), Notices(OLD, ()))
        for seed in range(60):
            notices = Notices(OLD, some_notices(seed, most=24))
            self.assertEqual(read_notices(OLD, write_notices(notices)), notices)
        self.assertEqual(write_notices(Notices(OLD, (("set", "a", "wwwwww"),))), ("set a 6w",))

    def test_texts(self):
        self.assertEqual(read_notices(OLD, ("set a w@4&..g.",)).notices, (("set", "a", "w.g."),))
        for text, cause in (("w2", BadText), ("", BadText), ("x", BadText), ("25w", BadText), ("24w.", TooLong)):
            with self.assertRaises(BadLine) as caught:
                read_notices(OLD, LINES + ("set a " + text,))
            self.assertEqual((caught.exception.line, caught.exception.word), (4, 2))
            self.assertIsInstance(caught.exception.__cause__, cause)

    def test_spoilt_words(self):
        for odd in (None, 0, True, "set a w", {}, object()):
            self.bad(odd, 0, 0)
        for odd in (None, 0, ("strike", "a"), b"strike a", True):
            self.bad(LINES[:1] + (odd,), 1, 0)
        for first in ("", "Set", "unset", "end", "-", "light"):
            self.bad(LINES + (first + " a w",), 4, 0)
        for name in ("", "-", "A", "a_b", "abcdefghi"):
            self.bad((f"set {name} w",), 0, 1)
            self.bad((f"strike {name}",), 0, 1)
        for number in ("", "-", "8", "00", "01", "-1", "+1", "a", "10", "1" * 400):
            self.bad(LINES[:2] + (f"withdraw {number}",), 2, 1)
        for line, word in (("set", 1), ("set a", 2), ("set a w w", 3), ("set a w ", 3), ("set  a w", 1), (" set a w", 0),
                           ("strike", 1), ("strike a a", 2), ("withdraw", 1), ("withdraw 0 0", 2), ("", 0), ("strike ", 1)):
            self.bad(LINES[:1] + (line,), 1, word)
        # The first bad word: a line behind it is not read.
        self.bad(("set a w", "set ? ?", None), 1, 1)

    def test_notices_are_judged_when_all_is_read(self):
        self.assertEqual(error_of(read_notices, OLD, ("withdraw 0",)), ("BadNotice", 0))
        self.assertEqual(error_of(read_notices, OLD, ("strike a", "withdraw 7")), ("BadNotice", 1))
        self.assertEqual(error_of(read_notices, OLD, ("strike a",) * 9), ("BadNotice", -1))
        self.bad(("withdraw 0", "withdraw 8"), 1, 1)
        self.bad(("strike a",) * 9 + ("",), 9, 0)

    def test_the_lines_are_not_changed(self):
        lines = list(LINES)
        read_notices(OLD, lines)
        self.assertEqual(lines, list(LINES))


if __name__ == "__main__":
    unittest.main()
