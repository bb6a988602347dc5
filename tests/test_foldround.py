"""Point 9: the folded text of a round."""

import itertools
import random
import unittest

from falseglim.foldround import fold_round
from falseglim.rhythmtext import read_round
from tests.helpers import SIGNS, error_of, rows_of


def all_texts(most_text, most_beats, signs):
    """All texts without `&` of up to so many characters, by length, with the rows that they stand for."""
    items = {size: {} for size in range(most_text + 1)}
    chains = {size: {} for size in range(most_text + 1)}
    parts = {size: {} for size in range(most_text + 1)}
    for size in range(1, most_text + 1):
        if size == 1:
            items[1].update({sign: sign for sign in signs})
        for times in range(2, most_beats + 1):
            if size == len(str(times)) + 1:
                items[size].update({str(times) + sign: sign * times for sign in signs})
            for text, row in parts.get(size - len(str(times)) - 2, {}).items():
                if len(row) * times <= most_beats:
                    items[size][f"{times}({text})"] = row * times
        chains[size].update(items[size])
        for head in range(1, size):
            for (text, row), (other, rest) in itertools.product(items[head].items(), chains[size - head].items()):
                if len(row + rest) <= most_beats:
                    chains[size][text + other] = row + rest
        parts[size].update(chains[size])
        for whole in range(1, most_beats + 1):
            for text, row in chains.get(size - len(str(whole)) - 1, {}).items():
                if len(row) <= whole:
                    parts[size][f"{text}@{whole}"] = row + "." * (whole - len(row))
    return [(text, row) for size in parts for text, row in parts[size].items()]


class TestFoldRound(unittest.TestCase):
    def test_examples(self):
        for row, text in (("w", "w"), ("ww", "2w"), ("w.", "w."), ("w..", "w.."), ("w...", "w3."), ("....", "4."), ("w.w.......", "w.w7."),
                          ("ww.ww.ww.r", "3(2w.)r"), ("w" + "." * 23, "w23."), ("w...w...w...w...", "4(w3.)"),
                          ("w" * 24, "24w"), ("wgwgwg", "3(wg)"), ("wgwg", "wgwg"), ("www", "3w"),
                          ("w.w.w.w.w.......", "5(w.)6."), ("w.....g.....", "w5.g5.")):
            self.assertEqual(fold_round(row), text)

    def test_of_several_the_first_as_a_string(self):
        # As short are 2w, and w@5; but a dot goes ahead of a digit, and a digit ahead of an @.
        for row, text in (("w..", "w.."), ("w....", "w4."), ("w..w..w.........", "3(w..)7."), ("ww..", "2w.."),
                          ("w.w.w.w......", "4(w.)5."), ("wwgg", "2w2g"), ("gggg", "4g"), ("w.w.w.", "3(w.)"),
                          ("wwww....wwww....", "2(4w4.)"), ("w.w.g.g.", "w.w.g.g.")):
            self.assertEqual(fold_round(row), text)

    def test_against_all_texts_of_short_rounds(self):
        best = {}
        for text, row in all_texts(8, 8, ".w"):
            self.assertEqual(read_round(text), row)
            if row not in best or (len(text), text) < (len(best[row]), best[row]):
                best[row] = text
        rows = [row for many in range(1, 9) for row in rows_of(many, ".w")]
        self.assertEqual(set(best), set(rows))
        for row in rows:
            self.assertEqual(fold_round(row), best[row])

    def test_against_short_texts_of_longer_rounds(self):
        for most, signs in ((6, ".w"), (4, SIGNS)):
            best = {}
            for text, row in all_texts(most, 24, signs):
                if row not in best or (len(text), text) < (len(best[row]), best[row]):
                    best[row] = text
            self.assertGreater(len(best), 1000)
            for row in best:
                self.assertEqual(fold_round(row), best[row])

    def test_each_stands_for_its_round(self):
        chance = random.Random(3)
        for _ in range(300):
            unit = "".join(chance.choice(SIGNS) for _ in range(chance.randrange(1, 7)))
            row = (unit * 24)[:chance.randrange(1, 25)]
            text = fold_round(row)
            self.assertEqual(read_round(text), row)
            self.assertLessEqual(len(text), len(row))
            self.assertNotIn("&", text)

    def test_bad_rounds(self):
        for odd in (None, 1, True, ("w",), ["w"], "", "w" * 25, "x" * 25):
            self.assertEqual(error_of(fold_round, odd), ("BadRound", -1))
        self.assertEqual(error_of(fold_round, "w.x"), ("BadRound", 2))


if __name__ == "__main__":
    unittest.main()
