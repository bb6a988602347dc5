"""Points 38 and 10: seas, and their lines."""

import random
import unittest

from falseglim.seas import Sea, read_sea, write_sea
from tests.helpers import ODD, SIGNS, error_of, listed

CLEAR = ".grw"
REGIONS = ("bay", "cape")
WAYS = ((0, 1), (1,))
SECTORS = ((CLEAR, "...."), (".rrr", CLEAR))
LINES = ("region bay .grw ....", "region cape .rrr .grw", "way bay bay cape", "way cape cape", "begin bay")
NO_TUPLES = tuple(odd for odd in ODD if not isinstance(odd, (tuple, list)))
NO_GLASSES = (None, 0, True, "", ".gr", ".grww", "xgrw", ".grW", (".", "g", "r", "w"), [".grw"], b".grw")


def some_sea(seed, many=None, lights=None):
    chance = random.Random(seed)
    many = many or chance.randint(1, 6)
    lights = lights or chance.randint(1, 3)
    regions = chance.sample(["a", "b", "cape", "0", "x9", "harbour1", "z"], many)
    ways = [sorted(chance.sample(range(many), chance.randint(1, min(2, many)))) for _ in regions]
    begins = sorted(chance.sample(range(many), chance.randint(1, many)))
    sectors = [["".join(chance.choice((sign, chance.choice(SIGNS))) for sign in CLEAR) for _ in range(lights)]
               for _ in regions]
    return Sea(regions, ways, begins, sectors)


class TestSea(unittest.TestCase):
    def test_attributes(self):
        for parts in ((REGIONS, WAYS, (0,), SECTORS), listed((REGIONS, WAYS, (0,), SECTORS))):
            sea = Sea(*parts)
            self.assertEqual((sea.regions, sea.ways, sea.begins, sea.sectors), (REGIONS, WAYS, (0,), SECTORS))
            for thing in (sea.regions, sea.ways, sea.ways[0], sea.begins, sea.sectors, sea.sectors[0]):
                self.assertIsInstance(thing, tuple)

    def test_lists_are_not_kept(self):
        parts = listed((REGIONS, WAYS, (0,), SECTORS))
        sea = Sea(*parts)
        parts[0][0], parts[1][0][0], parts[2][0], parts[3][0][0] = "x", 9, 9, "x"
        self.assertEqual(sea, Sea(REGIONS, WAYS, (0,), SECTORS))

    def test_as_a_container(self):
        sea = Sea(REGIONS, WAYS, (0,), SECTORS)
        self.assertEqual((len(sea), tuple(sea)), (2, REGIONS))
        for region in REGIONS:
            self.assertIs(region in sea, True)
        for odd in ODD + ("ba", "bay ", ("bay",), 1, {"bay": 1}, "bayc"):
            self.assertIs(odd in sea, False)

    def test_glasses(self):
        sea = Sea(REGIONS, WAYS, (0,), SECTORS)
        for number, region in enumerate(REGIONS):
            for light in (0, 1):
                self.assertEqual(sea[region, light], SECTORS[number][light])
        for odd in ODD + ("ba", ("bay",), 1):
            for light in (0, 9, None):
                told = error_of(lambda: sea[odd, light])
                self.assertEqual(told[0], "Unknown")
                self.assertIs(told[1], odd)
        for odd in (2, -1, True, False, None, "0", (0,), [], 0.0, 10 ** 39):
            told = error_of(lambda: sea["bay", odd])
            self.assertEqual(told[0], "NoLight")
            self.assertIs(told[1], odd)

    def test_equality(self):
        sea = Sea(REGIONS, WAYS, (0,), SECTORS)
        self.assertEqual(sea, Sea(list(REGIONS), list(WAYS), [0], list(SECTORS)))
        for other in (Sea(("bay", "cap"), WAYS, (0,), SECTORS), Sea(REGIONS, ((0,), (1,)), (0,), SECTORS),
                      Sea(REGIONS, WAYS, (0, 1), SECTORS), Sea(REGIONS, WAYS, (0,), SECTORS[::-1]),
                      REGIONS, None, "bay", 2, LINES):
            self.assertIs(sea == other, False)
            self.assertIs(sea != other, True)

    def test_bounds(self):
        for many in (1, 6):
            for lights in (1, 3):
                sea = some_sea(many, many, lights)
                self.assertEqual((len(sea), len(sea.sectors[-1])), (many, lights))
                self.assertEqual(len(Sea(sea.regions, (tuple(range(many)),) * many, tuple(range(many)), sea.sectors)), many)


class TestErrors(unittest.TestCase):
    def bad(self, error, regions=REGIONS, ways=WAYS, begins=(0,), sectors=SECTORS):
        self.assertEqual(error_of(Sea, regions, ways, begins, sectors), error)

    def test_regions(self):
        seven = tuple("abcdefg")
        for odd in NO_TUPLES + ((), [], seven, list(seven), "bay", {"bay": 1}):
            self.bad(("BadRegion", -1), odd, None, None, None)
        for odd in ODD[:7] + ("", "Bay", "a-b", "abcdefghi", ("bay",), ["bay"], "bay"):
            self.bad(("BadRegion", 1), ("bay", odd, "?"), None, None, None)
        self.bad(("BadRegion", 0), (1, 1), None, None, None)
        self.bad(("BadRegion", 2), ("a", "b", "a", "b"), None, None, None)
        self.bad(("BadWays", -1), ("a", "abcdefgh"), None, None, None)

    def test_ways(self):
        for odd in NO_TUPLES + ((), (((0,),)), ((0,),) * 3, "01", {0: (0,), 1: (0,)}):
            self.bad(("BadWays", -1), ways=odd, begins=None, sectors=None)
        for odd in NO_TUPLES + ((), [], (1, 0), (0, 0), (2,), (-1,), (0, 2), (True,), (False, 1), ("0",), "0", (None,),
                                ((0,),), {0: 0}, (0.0,)):
            self.bad(("BadWays", 1), ways=((0, 1), odd), begins=None, sectors=None)
            self.bad(("BadWays", 0), ways=(odd, odd), begins=None, sectors=None)

    def test_begins(self):
        for odd in NO_TUPLES + ((), [], (1, 0), (0, 0), (2,), (-1,), (True,), "0", (None,), {0: 0}):
            told = error_of(Sea, REGIONS, WAYS, odd, None)
            self.assertEqual(told[0], "BadBegins")
            self.assertIs(told[1], odd)

    def test_sectors(self):
        for odd in NO_TUPLES + ((), [], (SECTORS[0],), SECTORS + SECTORS[:1], ".grw", {0: SECTORS[0], 1: SECTORS[1]}):
            self.bad(("BadSector", -1), sectors=odd)
        for odd in NO_TUPLES + ((), [], (CLEAR,) * 4, CLEAR, {CLEAR: 1}):
            self.bad(("BadSector", 0), sectors=(odd, odd))
            self.bad(("BadSector", 1), sectors=((CLEAR,) * 2, odd))
        for odd in NO_GLASSES:
            self.bad(("BadSector", 0), sectors=((CLEAR, odd), (CLEAR, odd)))
            self.bad(("BadSector", 1), sectors=((CLEAR, CLEAR), (odd, CLEAR)))
        # Another number of glasses than the first region has.
        self.bad(("BadSector", 1), sectors=((CLEAR,), (CLEAR, CLEAR)))
        self.bad(("BadSector", 1), sectors=((CLEAR,) * 3, (CLEAR, CLEAR)))
        self.bad(("BadSector", 2), ("a", "b", "c"), ((0,),) * 3, (0,), ((CLEAR,), (CLEAR,), (CLEAR, CLEAR)))
        self.bad(("BadSector", 0), sectors=((CLEAR,) * 4, (CLEAR,) * 4))


class TestLines(unittest.TestCase):
    def bad(self, lines, line, word):
        self.assertEqual(error_of(read_sea, lines), ("BadLine", line, word), lines)

    def changed(self, line, text):
        return LINES[:line] + (text,) + LINES[line + 1:]

    def test_there_and_back(self):
        sea = Sea(REGIONS, WAYS, (0,), SECTORS)
        self.assertEqual(write_sea(sea), LINES)
        self.assertIsInstance(write_sea(sea), tuple)
        self.assertEqual(read_sea(LINES), sea)
        self.assertEqual(read_sea(list(LINES)), sea)
        for seed in range(60):
            sea = some_sea(seed)
            self.assertEqual(read_sea(write_sea(sea)), sea)
            self.assertEqual(write_sea(read_sea(write_sea(sea))), write_sea(sea))
        self.assertEqual(len(write_sea(some_sea(1, 6, 3))), 13)

    def test_things_that_are_no_lines(self):
        for odd in (None, 0, True, LINES[0], "", {}, object()):
            self.bad(odd, 0, 0)
        for odd in (None, 0, ("region", "a"), b"begin bay", True):
            for line in range(5):
                self.bad(self.changed(line, odd), line, 0)
            self.bad(LINES + (odd,), 5, 0)

    def test_lines_that_end_too_early(self):
        for many in range(5):
            self.bad(LINES[:many], many, 0)
        self.bad([], 0, 0)

    def test_lines_too_many(self):
        for line in LINES + ("", "end", "begin bay"):
            self.bad(LINES + (line,), 5, 0)
        # A way too much, a way too few, a region behind the ways.
        self.bad(LINES[:4] + ("way cape cape",) + LINES[4:], 4, 0)
        self.bad(LINES[:3] + LINES[4:], 3, 0)
        self.bad(LINES[:2] + LINES[4:], 2, 0)
        self.bad(LINES[:3] + ("region x .grw .grw",) + LINES[3:], 3, 0)
        self.bad(LINES[2:], 0, 0)
        self.bad(LINES[4:], 0, 0)

    def test_first_words(self):
        for first in ("", "Region", "regions", "ways", "begins", "end", "-", "bay", "state"):
            for line in range(5):
                self.bad(self.changed(line, first + " bay"), line, 0)

    def test_words_in_themselves(self):
        for word in ("", "-", "Bay", "a_b", "abcdefghi", "?"):
            self.bad(self.changed(0, f"region {word} .grw ...."), 0, 1)
            self.bad(self.changed(1, f"region {word} x"), 1, 1)
        for word in ("", "....!", "x", ".gr", ".grww", "-", ".GRW"):
            self.bad(self.changed(0, f"region bay {word} ...."), 0, 2)
            self.bad(self.changed(1, f"region cape .grw {word}"), 1, 3)
        for word in ("", "-", "bays", "ba", "Bay", "sea", "0", "?"):
            self.bad(self.changed(2, f"way {word} bay"), 2, 1)
            self.bad(self.changed(2, f"way bay {word} bay"), 2, 2)
            self.bad(self.changed(2, f"way bay bay cape {word}"), 2, 4)
            self.bad(self.changed(4, f"begin {word}"), 4, 1)
            self.bad(self.changed(4, f"begin bay {word} ?"), 4, 2)

    def test_too_few_words_and_blanks(self):
        self.bad(self.changed(0, "region"), 0, 1)
        self.bad(self.changed(2, "way"), 2, 1)
        for line in range(5):
            self.bad(self.changed(line, " " + LINES[line]), line, 0)
            self.bad(self.changed(line, LINES[line] + " "), line, len(LINES[line].split()))
            self.bad(self.changed(line, LINES[line].replace(" ", "  ", 1)), line, 1)
            self.bad(self.changed(line, ""), line, 0)

    def test_the_first_name_of_a_way_line(self):
        self.bad(self.changed(2, "way cape cape"), 2, 1)
        self.bad(self.changed(3, "way bay bay"), 3, 1)
        self.bad(LINES[:2] + (LINES[3], LINES[2], LINES[4]), 2, 1)

    def test_the_first_bad_word(self):
        self.bad(("region bay x", "region ? .grw") + LINES[2:], 0, 2)
        # A name that is no region's goes ahead of a word behind it that is no name.
        self.bad(self.changed(2, "way bay sea ?"), 2, 2)
        self.bad(self.changed(2, "way bay ? sea"), 2, 2)

    def test_the_errors_of_the_sea_when_all_is_read(self):
        def told(*changes):
            lines = list(LINES)
            for line, text in changes:
                lines[line] = text
            return error_of(read_sea, lines)

        self.assertEqual(told((0, "region bay"), (1, "region cape")), ("BadSector", 0))
        self.assertEqual(told((0, "region bay .grw")), ("BadSector", 1))
        self.assertEqual(told((0, "region bay .grw .grw .grw .grw")), ("BadSector", 0))
        self.assertEqual(told((2, "way bay")), ("BadWays", 0))
        self.assertEqual(told((2, "way bay cape bay")), ("BadWays", 0))
        self.assertEqual(told((3, "way cape cape cape")), ("BadWays", 1))
        self.assertEqual(told((4, "begin")), ("BadBegins", ()))
        self.assertEqual(told((4, "begin cape bay")), ("BadBegins", (1, 0)))
        self.bad(self.changed(2, "way bay cape bay")[:4] + ("begin x",), 4, 1)
        seven = tuple(f"region {name} .grw" for name in "abcdefg") + tuple(f"way {name} a" for name in "abcdefg")
        self.assertEqual(error_of(read_sea, seven + ("begin g",)), ("BadRegion", -1))

    def test_regions_with_one_name(self):
        lines = ("region bay .grw", "region bay ....", "way bay bay", "way bay bay bay", "begin bay")
        self.assertEqual(error_of(read_sea, lines), ("BadRegion", 1))
        self.bad(lines[:3] + ("way cape bay", "begin bay"), 3, 1)
        # Its name stands for the first region that has it: what is bad behind is found first.
        self.bad(lines[:4] + ("begin cape",), 4, 1)

    def test_the_lines_are_not_changed(self):
        lines = list(LINES)
        read_sea(lines)
        self.assertEqual(lines, list(LINES))


if __name__ == "__main__":
    unittest.main()
