"""Point 8: rhythm texts."""

import itertools
import math
import random
import unittest

from falseglim.rhythmtext import read_round
from tests.helpers import error_of


class Wrong(Exception):
    """Where a text is bad."""


class Told:
    """A second reader of texts, which goes by the words of the document: tokens first, then their places."""

    def __init__(self, text):
        self.text, self.at = text, 0
        self.tokens = []
        at = 0
        while at < len(text):
            end = at + 1
            while text[at].isdigit() and end < len(text) and text[end].isdigit():
                end += 1
            self.tokens.append((at, text[at:end]))
            at = end
        self.tokens.append((len(text), ""))

    def token(self):
        return self.tokens[self.at][1]

    def bad(self):
        raise Wrong(self.tokens[self.at][0])

    def run(self, low, high):
        """Takes the run of digits that stands here."""
        word = self.token()
        if word[0] == "0" or (low is not None and not low <= int(word) <= high):
            self.bad()
        self.at += 1
        return int(word)

    def texts(self, deep):
        """The number of beats, and the row where it is short."""
        parts = [self.part(deep)]
        while self.token() == "&":
            self.at += 1
            parts.append(self.part(deep))
        if self.token() != (")" if deep else ""):
            self.bad()
        many = math.lcm(*[beats for beats, _ in parts])
        if many > 1000:
            return many, ""
        return many, "".join(next((row[beat % beats] for beats, row in parts if row[beat % beats] != "."), ".")
                             for beat in range(many))

    def part(self, deep):
        many, row = 0, ""
        while self.token() in tuple(".grw") or self.token().isdigit():
            times, beats, signs = 1, 1, ""
            if self.token().isdigit():
                ahead = self.tokens[self.at + 1][1] in tuple(".grw(")
                times = self.run(*((2, 24) if ahead else (None, None)))
                if not ahead:
                    self.bad()
            if self.token() == "(":
                if deep == 6:
                    self.bad()
                self.at += 1
                beats, signs = self.texts(deep + 1)
            else:
                signs = self.token()
            self.at += 1
            many += times * beats
            row = row + signs * times if many <= 1000 else ""
        if many == 0:
            self.bad()
        if self.token() == "@":
            self.at += 1
            if not self.token().isdigit():
                self.bad()
            whole = self.run(max(1, many), 24)
            row, many = row + "." * (whole - many), whole
        return many, row


def told(text):
    try:
        many, row = Told(text).texts(0)
    except Wrong as wrong:
        return "BadText", wrong.args[0]
    return row if many <= 24 else ("TooLong", many)


class TestReadRound(unittest.TestCase):
    def bad(self, text, at):
        self.assertEqual(error_of(read_round, text), ("BadText", at), text)

    def test_examples(self):
        self.assertEqual(read_round("2(w.)@10"), "w.w.......")
        self.assertEqual(read_round("3(2w.)r&."), "ww.ww.ww.r")
        self.bad("30&w", 2)
        self.bad("99", 2)

    def test_items(self):
        for text, row in (("w", "w"), ("wg.r", "wg.r"), ("2w", "ww"), ("24w", "w" * 24), ("3(w)", "www"),
                          ("2(w.)g", "w.w.g"), ("2(2(w)g)", "wwgwwg"), ("w@3", "w.."), ("w.@2", "w."), ("w@1", "w"),
                          ("2(w@3)", "w..w.."), ("2(w@3)@9", "w..w....."), ("24.", "." * 24), ("w@24", "w" + "." * 23)):
            self.assertEqual(read_round(text), row)

    def test_parts_together(self):
        for text, row in (("w.&g", "wg"), ("g&w.", "gg"), (".&.&.", "."), ("w..&.g", "wg.w.g"), ("2(w.&g)", "wgwg"),
                          ("w@3&g@4", "w..wg.w.gw.."), ("..w&g.&r", "grwrgw"), ("w.&w.&w.", "w."), ("..&.", ".."),
                          ("2(w.)&2(.g)", "wgwg"), ("w@2&2(2(g.))", "w.w.w.w.")):
            self.assertEqual(read_round(text), row, text)

    def test_brackets(self):
        six = "2(" * 6 + "w" + ")" * 6
        self.assertEqual(error_of(read_round, six), ("TooLong", 64))
        self.bad("2(" * 7 + "w" + ")" * 7, 13)
        self.bad("2(" * 6 + "30(w", 12)
        self.bad("2(" * 6 + "3(", 13)
        # Brackets that are closed do not count.
        self.assertEqual(read_round("2(w)" * 8), "w" * 16)
        self.bad("(w)", 0)
        self.bad("w(w)", 1)
        self.bad("w)", 1)
        self.bad("2(w))", 4)
        self.bad("2(w", 3)
        self.bad("2(", 2)
        self.bad("2(2(w)", 6)

    def test_runs_of_digits(self):
        for text, at in (("0w", 0), ("02w", 0), ("1w", 0), ("25w", 0), ("100w", 0), ("w0w", 1), ("1(w)", 0),
                         ("25(w)", 0), ("0&", 0), ("0", 0), ("00", 0), ("w01", 1), ("25", 2), ("1", 1), ("1&w", 1),
                         ("25)", 2), ("25@3", 2), ("w25 w", 3), ("2@3", 1), ("w@0", 2), ("w@01", 2), ("w@25", 2),
                         ("w@100", 2), ("ww@1", 3), ("24ww@24", 5), ("2(w.)@3", 6), ("w@", 2), ("w@w", 2),
                         ("w@3w", 3), ("w@3(", 3), ("w@3@4", 3), ("w@3)", 3), ("w@3.", 3), ("w@ 3", 2),
                         ("24(24w)@24", 8), ("2(w@25)", 4), ("2(ww@1)", 5), ("2(w@3", 5)):
            self.bad(text, at)
        self.bad("9" * 1999 + "w", 0)
        self.bad("9" * 2000, 2000)
        self.bad("1" + "0" * 1998 + "(", 0)
        self.bad("w@" + "9" * 1998, 2)
        self.bad("w@" + "2" * 1997 + "&", 2)
        self.bad("w&" + "3" * 1000 + "&w", 1002)

    def test_parts_without_items(self):
        for text, at in (("", 0), ("&", 0), ("&w", 0), ("w&", 2), ("w&&w", 2), ("@3", 0), ("w&@3", 2), ("2()", 2),
                         ("2(&w)", 2), ("2(w&)", 4), (")", 0), ("2(@3)", 2)):
            self.bad(text, at)

    def test_odd_characters(self):
        for number in range(32, 127):
            if chr(number) not in ".grw&@0123456789)":
                self.bad(chr(number), 0)
                self.bad("w" + chr(number), 1)
                self.bad("2(w" + chr(number), 3)
        for odd in (None, 0, True, 2.0, ("w",), ["w"], b"w"):
            self.bad(odd, -1)

    def test_too_long(self):
        self.assertEqual(read_round("12(w.)"), "w." * 12)
        self.assertEqual(read_round("w" * 24), "w" * 24)
        for text, many in (("w" * 25, 25), ("24ww", 25), ("24(ww)", 48), ("w@7&w@8", 56), ("w@24&w@23", 552),
                           ("24(" * 6 + "24w" + ")" * 6, 24 ** 7), ("w" * 2000, 2000), ("5w&5(w@7)", 35)):
            self.assertEqual(error_of(read_round, text), ("TooLong", many))
        primes = (2, 3, 5, 7, 11, 13, 17, 19, 23)
        text = "&".join(f"w@{prime}" for prime in primes)
        self.assertEqual(error_of(read_round, text), ("TooLong", math.prod(primes)))
        great = "&".join(f"{times}({text})" for times in (16, 9, 24))
        self.assertEqual(error_of(read_round, great), ("TooLong", math.prod(primes) * math.lcm(16, 9, 24)))

    def test_too_long_only_when_all_is_read(self):
        self.bad("24(ww)x", 6)
        self.bad("w" * 25 + "&", 26)
        self.bad("24(24(ww)))", 10)

    def test_all_short_texts(self):
        for many in range(6):
            for text in itertools.product("w.2@1()&", repeat=many):
                text = "".join(text)
                self.assertEqual(error_of(read_round, text), told(text), text)

    def test_many_longer_texts(self):
        chance = random.Random(7)
        pieces = ["w", ".", "g", "r", "2(", "3(", ")", "&", "@", "@6", "@12", "2", "24", "25", "w.", "0", "(", "4w", "1"]
        good = 0
        for _ in range(40000):
            text = "".join(chance.choice(pieces) for _ in range(chance.randrange(1, 12)))
            text = text + ")" * max(0, chance.randrange(2) * (text.count("(") - text.count(")")))
            self.assertEqual(error_of(read_round, text), told(text), text)
            good = good + (told(text)[0] not in ("BadText", "TooLong"))
        self.assertGreater(good, 1000)


if __name__ == "__main__":
    unittest.main()
