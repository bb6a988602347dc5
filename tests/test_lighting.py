"""Points 47 and 48: rounds that are apart, a coast that is lit anew, and trees of cases."""

import itertools
import unittest

from falseglim.cases import CaseTrees
from falseglim.eyes import Eye
from falseglim.hindsight import Hindsight
from falseglim.lighting import Lighting, apart, candidates, judge_cases
from falseglim.makers import either, ring
from falseglim.weathers import eye_of
from tests.helpers import ODD, SIGNS, error_of, listed, some_eye
from tests.test_ships import heavy_eye

FAIR = Eye.fair()
NO_SIGNS = tuple(ODD) + (".", "w", "gw", "w.", ".wg", ".ww", "..", ".grww", ".x", ". w", (".", "w"), [".", "w"], b".w", ".gr.")
NO_DELAYS = tuple(odd for odd in ODD if type(odd) is not int) + (-1, 61, "1", (1,), 10 ** 39)


def told_candidates(signs, most):
    """All rounds that come ahead of each of their turns and are no shorter round again and again."""
    found = []
    for many in range(1, most + 1):
        for row in map("".join, itertools.product(signs, repeat=many)):
            turns = [row[at:] + row[:at] for at in range(many)]
            if set(row) != {"."} and row == min(turns) and turns.count(row) == 1:
                found.append(row)
    return tuple(found)


def told_apart(first, second, eye, delay):
    verdict = Hindsight(either(ring(first, "a"), ring(second, "b")), eye)
    return bool(verdict) and verdict.delay <= delay


def told_choice(many, rows, pairs):
    """The best choice and its period, by going through all choices."""
    choices = [choice for choice in itertools.combinations(range(len(rows)), many)
               if all(pair in pairs for pair in itertools.combinations(choice, 2))]

    def key(choice):
        told = [rows[number] for number in choice]
        return max(map(len, told)), sum(len(row.replace(".", "")) for row in told), choice

    best = min(choices, key=key, default=None)
    return (None, None) if best is None else (tuple(rows[number] for number in best), key(best)[0])


def told_tree(many, pairs, taken, left):
    """The tree of a case that always asks the first of those left."""
    if len(taken) + len(left) < many:
        return ("few",)
    first, rest = left[0], left[1:]
    near = [other for other in rest if (first, other) in pairs]
    return ("take", first, told_tree(many, pairs, taken + [first], near), told_tree(many, pairs, taken, rest))


def told_lighting(many, signs, most, eye, delay):
    """The choice, the period and the tree by the words of the document."""
    rows = told_candidates(signs, most)
    pairs = {(one, other) for one, other in itertools.combinations(range(len(rows)), 2)
             if told_apart(rows[one], rows[other], eye, delay)}
    choice, period = told_choice(many, rows, pairs)
    last = most if period is None else period - 1
    left = [number for number, row in enumerate(rows) if len(row) <= last]
    return choice, period, told_tree(many, pairs, [], left) if last else None


def cases(tree):
    """The number of cases in a tree."""
    return 1 + sum(cases(part) for part in tree[2:])


def set_eye(classes):
    """An eye that sees dark for four beats and then, for ever, the sign that is told for the set of signs shown."""
    places = [(0, "")]
    entries = set()
    for beat, known in places:
        for sign in SIGNS:
            later = "".join(sorted(set(known) | {sign}))
            place = (beat + 1, later) if beat < 3 else ("end", classes.get(later, "."))
            if "r" in later:
                place = ("end", ".")
            if place not in places and place[0] != "end":
                places.append(place)
            entries.add(((beat, known), sign, ".", place))
    ends = sorted({entry[3] for entry in entries if entry[3][0] == "end"})
    numbers = {place: number for number, place in enumerate(places + ends)}
    told = [(numbers[state], shown, seen, numbers[later]) for state, shown, seen, later in entries]
    told += [(numbers[end], sign, end[1], numbers[end]) for end in ends for sign in SIGNS]
    return Eye(told)


class TestCandidates(unittest.TestCase):
    def test_candidates(self):
        self.assertEqual(candidates(".w", 3), ("w", ".w", "..w", ".ww"))
        self.assertEqual(candidates(".gw", 2), ("g", "w", ".g", ".w", "gw"))
        self.assertEqual(candidates(".grw", 1), ("g", "r", "w"))
        self.assertEqual(candidates(".g", 4)[-3:], ("...g", "..gg", ".ggg"))
        self.assertIsInstance(candidates(".w", 1), tuple)

    def test_against_the_words(self):
        for signs in (".g", ".r", ".w", ".gr", ".gw", ".rw", ".grw"):
            for most in range(1, 7):
                told = told_candidates(signs, most)
                if len(told) > 40:
                    told = ("TooMany", "round")
                self.assertEqual(error_of(candidates, signs, most), told)

    def test_forty_and_more(self):
        self.assertEqual([len(candidates(*parts)) for parts in ((".w", 6), (".gw", 4), (".grw", 3))], [22, 31, 29])
        for signs, most in ((".gw", 5), (".gw", 6), (".grw", 4), (".grw", 5), (".grw", 6)):
            self.assertEqual(error_of(candidates, signs, most), ("TooMany", "round"))

    def test_errors(self):
        for odd in NO_SIGNS:
            told = error_of(candidates, odd, None)
            self.assertEqual(told[0], "BadSigns")
            self.assertIs(told[1], odd)
        for odd in [thing for thing in ODD if type(thing) is not int] + [0, 7, -1, "1", (1,), 10 ** 39]:
            told = error_of(candidates, ".grw", odd)
            self.assertEqual(told[0], "BadMost")
            self.assertIs(told[1], odd)


class TestApart(unittest.TestCase):
    def test_apart(self):
        self.assertIs(apart("w", "g", FAIR, 1), True)
        self.assertIs(apart("w", "g", FAIR, 0), False)
        self.assertIs(apart("w.", "w..", FAIR, 60), True)
        self.assertIs(apart("w.", ".w", FAIR, 60), False)
        self.assertIs(apart("w.", "w.w.", FAIR, 60), False)
        self.assertIs(apart("w", "g", Eye.through(".www"), 60), False)
        self.assertIs(apart("w" * 24, "w" * 23 + "g", FAIR, 24), True)
        self.assertIs(apart("w" * 24, "w" * 23 + "g", FAIR, 23), False)

    def test_against_the_words(self):
        rows = told_candidates(".gw", 3)
        found = set()
        for number, (first, second) in enumerate(itertools.product(rows[::2], rows[::3])):
            for eye in (FAIR, eye_of((("miss", 1, 3),)), some_eye(number, 2)):
                for delay in (0, 1, 3, 6, 60):
                    told = told_apart(first, second, eye, delay)
                    self.assertIs(apart(first, second, eye, delay), told)
                    self.assertIs(apart(second, first, eye, delay), told)
                    found.add((told, delay))
        self.assertGreater(len(found), 7)

    def test_errors_in_their_order(self):
        for odd, number in ((None, -1), ("", -1), ("w" * 25, -1), (("w",), -1), ("wx", 1), ("x", 0), (1, -1)):
            self.assertEqual(error_of(apart, odd, None, FAIR, None), ("BadRound", number))
            self.assertEqual(error_of(apart, "w", odd, FAIR, None), ("BadRound", number))
        for odd in NO_DELAYS:
            told = error_of(apart, "w" * 24, "g" * 24, heavy_eye(), odd)
            self.assertEqual(told[0], "BadDelay")
            self.assertIs(told[1], odd)

    def test_too_many_pairs(self):
        # 60 standings can all come together: 1,830 pairs; with 90 of them there are 4,095.
        self.assertIs(apart("w", "g", heavy_eye(), 60), False)
        self.assertEqual(error_of(apart, "w", "g.", heavy_eye(), 60), ("TooMany", "pair"))


class TestLighting(unittest.TestCase):
    def test_attributes(self):
        eye = Eye.fair()
        lit = Lighting(2, ".w", 3, eye, 60)
        self.assertEqual((lit.many, lit.signs, lit.most, lit.delay), (2, ".w", 3, 60))
        self.assertIs(lit.eye, eye)
        self.assertEqual((lit.choice, lit.period, bool(lit)), (("w", ".w"), 2, True))
        self.assertIs(bool(lit), True)
        self.assertEqual(lit.tree, ("few",))

    def test_one_light(self):
        for signs, row in ((".w", "w"), (".gw", "g"), (".rw", "r")):
            lit = Lighting(1, signs, 3, FAIR, 0)
            self.assertEqual((lit.choice, lit.period, lit.tree), ((row,), 1, None))

    def test_the_least_period_then_the_fewest_lit_signs(self):
        self.assertEqual(Lighting(3, ".w", 6, FAIR, 60).choice, ("w", ".w", "..w"))
        self.assertEqual(Lighting(4, ".w", 6, FAIR, 60).choice, ("w", ".w", "..w", ".ww"))
        # The first one of those with as few.
        self.assertEqual(Lighting(3, ".gw", 3, FAIR, 60).choice, ("g", "w", ".g"))
        self.assertEqual(Lighting(2, ".grw", 3, FAIR, 60).choice, ("g", "r"))
        # One with fewer lit signs is better though another one comes first.
        told = Lighting(2, ".gw", 2, Eye.through(".gg."), 60)
        self.assertEqual((told.choice, told.period), told_lighting(2, ".gw", 2, Eye.through(".gg."), 60)[:2])

    def test_no_choice(self):
        lit = Lighting(2, ".w", 1, FAIR, 60)
        self.assertEqual((lit.choice, lit.period, bool(lit), lit.tree), (None, None, False, ("few",)))
        self.assertIs(bool(lit), False)
        lit = Lighting(2, ".w", 3, Eye.through("...."), 60)
        self.assertEqual((lit.choice, lit.tree), (None, (
            "take", 0, ("few",), ("take", 1, ("few",), ("take", 2, ("few",), ("few",))))))

    def test_the_tree(self):
        # With three lights and the delay 2 but two rounds are apart.
        lit = Lighting(3, ".w", 2, FAIR, 2)
        self.assertEqual(lit.tree, ("few",))
        lit = Lighting(3, ".gw", 2, FAIR, 1)
        self.assertEqual((lit.choice, lit.period), (None, None))
        told = told_lighting(3, ".gw", 2, FAIR, 1)
        self.assertEqual(lit.tree, told[2])
        self.assertEqual(lit.tree[:2], ("take", 0))
        # The tree is told for the greatest period below that of the best choice.
        lit = Lighting(4, ".w", 6, FAIR, 60)
        self.assertEqual((lit.period, lit.tree), (3, ("few",)))
        lit = Lighting(4, ".w", 6, eye_of((("miss", 1, 3),)), 60)
        self.assertEqual((lit.choice, lit.period), (("w", ".w", "..w", "...ww"), 5))
        self.assertEqual(lit.tree, told_lighting(4, ".w", 6, eye_of((("miss", 1, 3),)), 60)[2])
        self.assertIs(judge_cases(4, ".w", 4, lit.eye, 60, lit.tree), True)
        self.assertIs(judge_cases(4, ".w", 5, lit.eye, 60, lit.tree), False)

    def test_against_the_words(self):
        found = set()
        weathers = ((), (("miss", 1, 3),), (("take", "g", "w"),), (("lose", 1),), (("late",),), (("always", "w", "."),))
        for number, (many, (signs, most)) in enumerate(itertools.product(
                (1, 2, 3, 4), ((".w", 1), (".w", 2), (".w", 3), (".w", 4), (".gw", 2), (".gw", 3), (".grw", 2)))):
            for delay in (0, 1, 3, 60):
                eye = eye_of(weathers[(number + delay) % len(weathers)])
                lit = Lighting(many, signs, most, eye, delay)
                told = told_lighting(many, signs, most, eye, delay)
                self.assertEqual((lit.choice, lit.period, lit.tree), told)
                self.assertIs(bool(lit), told[0] is not None)
                if lit.tree is not None:
                    last = most if lit.period is None else lit.period - 1
                    self.assertIs(judge_cases(many, signs, last, eye, delay, lit.tree), True)
                found.add((lit.period, lit.tree is None or cases(lit.tree) > 3))
        self.assertGreater(len(found), 4)

    def test_each_choice_is_apart(self):
        lit = Lighting(4, ".grw", 3, eye_of((("miss", 1, 4),)), 60)
        for first, second in itertools.combinations(lit.choice, 2):
            self.assertIs(apart(first, second, lit.eye, 60), True)

    def test_errors_in_their_order(self):
        for call, more in ((Lighting, ()), (judge_cases, (None,))):
            for odd in [thing for thing in ODD if type(thing) is not int] + [0, 5, -1, "1", (1,), 10 ** 39]:
                told = error_of(call, odd, None, None, FAIR, None, *more)
                self.assertEqual(told[0], "BadMany")
                self.assertIs(told[1], odd)
            for odd in NO_SIGNS:
                told = error_of(call, 4, odd, None, FAIR, None, *more)
                self.assertEqual(told[0], "BadSigns")
                self.assertIs(told[1], odd)
            for odd in [thing for thing in ODD if type(thing) is not int] + [0, 7, -1, "1", (1,)]:
                told = error_of(call, 4, ".w", odd, FAIR, None, *more)
                self.assertEqual(told[0], "BadMost")
                self.assertIs(told[1], odd)
            for odd in NO_DELAYS:
                told = error_of(call, 4, ".grw", 6, FAIR, odd, *more)
                self.assertEqual(told[0], "BadDelay")
                self.assertIs(told[1], odd)
            self.assertEqual(error_of(call, 1, ".grw", 4, heavy_eye(), 0, *more), ("TooMany", "round"))
            self.assertEqual(error_of(call, 1, ".w", 2, heavy_eye(), 0, *more), ("TooMany", "pair"))

    def test_two_thousand_cases(self):
        # Three classes of rounds by the sets of their signs: two rounds are apart if their classes differ.
        eye = set_eye({".g": "g", "g": "g", "w": "g", ".gw": "r", ".w": "w", "gw": "w"})
        self.assertIs(apart("g", "w", eye, 60), False)
        self.assertIs(apart(".g", ".gw", eye, 5), True)
        self.assertEqual(error_of(Lighting, 4, ".gw", 4, eye, 60), ("TooMany", "case"))
        rows = candidates(".gw", 4)
        kinds = ["w" if set(row) in ({".", "w"}, {"g", "w"}) else "r" if len(set(row)) == 3 else "g" for row in rows]
        pairs = {pair for pair in itertools.combinations(range(31), 2) if kinds[pair[0]] != kinds[pair[1]]}
        tree = told_tree(4, pairs, [], list(range(31)))
        self.assertEqual(cases(tree), 2309)
        # No error is raised for a tree that is passed with more of them.
        self.assertIs(judge_cases(4, ".gw", 4, eye, 60, tree), True)
        self.assertIs(judge_cases(4, ".gw", 4, eye, 60, tree[:3] + (("few",),)), False)
        # With other classes there are fewer.
        eye = set_eye({".g": "g", "g": "g", "w": "g", ".gw": "r", ".w": "r", "gw": "w"})
        lit = Lighting(4, ".gw", 4, eye, 60)
        self.assertIsNone(lit.choice)
        kinds = ["r" if kind == "w" and "g" not in row else kind for kind, row in zip(kinds, rows)]
        pairs = {pair for pair in itertools.combinations(range(31), 2) if kinds[pair[0]] != kinds[pair[1]]}
        self.assertEqual(lit.tree, told_tree(4, pairs, [], list(range(31))))
        self.assertGreater(cases(lit.tree), 500)
        self.assertIs(judge_cases(4, ".gw", 4, eye, 60, lit.tree), True)


class TestCases(unittest.TestCase):
    def grown(self, pairs):
        others = [{other: True for other in range(31) if tuple(sorted((number, other))) in pairs} for number in range(31)]
        return error_of(CaseTrees(4, others).grown, 0, list(range(31)))

    def test_the_last_tree_that_is_not_too_large(self):
        # Three classes as before; fewer and fewer pairs are apart. (A tree always has an odd number of cases.)
        pairs = {pair for pair in itertools.combinations(range(31), 2) if pair[0] % 3 != pair[1] % 3}
        tree = told_tree(4, pairs, [], list(range(31)))
        for pair in sorted(pairs):
            if cases(tree) == 2001:
                break
            pairs.discard(pair)
            tree = told_tree(4, pairs, [], list(range(31)))
        self.assertEqual((cases(tree), self.grown(pairs)), (2001, ("TooMany", "case")))
        for pair in sorted(pairs):
            tree = told_tree(4, pairs - {pair}, [], list(range(31)))
            if cases(tree) == 1999:
                break
        self.assertEqual(cases(tree), 1999)
        self.assertEqual(self.grown(pairs - {pair}), tree)


class TestJudge(unittest.TestCase):
    def setUp(self):
        # Candidates w, .w, ..w, .ww; only some are apart with the delay 3.
        self.eye, self.delay = FAIR, 3
        self.lit = Lighting(4, ".w", 3, self.eye, self.delay)

    def judge(self, tree, many=4):
        return judge_cases(many, ".w", 3, self.eye, self.delay, tree)

    def test_right_trees(self):
        self.assertIsNone(self.lit.choice)
        self.assertEqual(self.lit.tree[0], "take")
        self.assertIs(self.judge(self.lit.tree), True)
        self.assertIs(self.judge(listed(self.lit.tree)), True)

    def test_trees_that_ask_otherwise(self):
        # Any number that is left can be asked, and more than needed.
        rows = candidates(".w", 3)
        pairs = {(one, other) for one in range(4) for other in range(4) if told_apart(rows[one], rows[other], self.eye, 3)}

        def tree(taken, left, order, further):
            if taken + len(left) < 4 and not (further and left):
                return ("few",)
            number = [one for one in order if one in left][0]
            others = [one for one in left if one != number]
            return ("take", number, tree(taken + 1, [one for one in others if (one, number) in pairs], order, further),
                    tree(taken, others, order, further))

        for order in itertools.permutations(range(4)):
            for further in (False, True):
                self.assertIs(self.judge(tree(0, [0, 1, 2, 3], order, further)), True)

    def test_each_kind_of_wrong_one(self):
        tree = self.lit.tree
        few = ("few",)
        # Too many are left; the one that is taken is not left, or no such thing.
        self.assertIs(self.judge(few), False)
        for number in (4, -1, True, False, None, "0", 0.0, (0,), [], 10 ** 39):
            self.assertIs(self.judge(("take", number) + tree[2:]), False)
        # Taken twice, in either tree.
        self.assertIs(self.judge(("take", tree[1], tree, tree[3])), False)
        self.assertIs(self.judge(("take", tree[1], tree[2], tree)), False)
        # Either of the two trees wrong.
        self.assertIs(self.judge(tree[:3] + (None,)), False)
        self.assertIs(self.judge(tree[:2] + (None, tree[3])), False)
        self.assertIs(self.judge(("take", tree[1], tree[3], tree[2])), tree[3] == tree[2])
        # Those that are not apart are left out: so a tree that asks one of them is wrong.
        none = Eye.through("....")
        self.assertIs(judge_cases(2, ".w", 2, none, 60, ("take", 0, few, ("take", 1, few, few))), True)
        self.assertIs(judge_cases(2, ".w", 2, none, 60, ("take", 0, ("take", 1, few, few), few)), False)
        self.assertIs(judge_cases(2, ".w", 2, none, 60, ("take", 0, few, few)), True)
        self.assertIs(judge_cases(2, ".w", 3, none, 60, ("take", 0, few, few)), False)

    def test_no_tree_is_right_where_there_is_a_choice(self):
        few = ("few",)
        for tree in (few, ("take", 0, few, few), ("take", 1, few, few), ("take", 0, ("take", 1, few, few), few)):
            self.assertIs(judge_cases(2, ".w", 2, FAIR, 60, tree), False)
            self.assertIs(judge_cases(1, ".w", 1, FAIR, 60, tree), False)

    def test_things_that_are_no_tree(self):
        few = ("few",)
        for odd in ODD + ("few", "take", ("few", 0), ("few", few), ("Few",), (("few",),), ("take",), ("take", 0), ("take", 0, few),
                          ("take", 0, few, few, few), ("took", 0, few, few), ("", 0, few, few), (None, 0, few, few), {"few": 0},
                          ({}, 0, few, few), (["few"],), ("take", few, 0, few), b"few"):
            self.assertIs(judge_cases(2, ".w", 1, FAIR, 60, odd), False, odd)
            self.assertIs(judge_cases(2, ".w", 3, Eye.through("...."), 60, ("take", 0, few, odd)), False)
            self.assertIs(judge_cases(2, ".w", 2, Eye.through("...."), 60, ("take", 0, odd, few)), False)
        self.assertIs(judge_cases(2, ".w", 1, FAIR, 60, ["few"]), True)

    def test_deep_trees(self):
        few = ("few",)
        for many in (59, 61, 3000):
            tree, other = few, few
            for number in range(many):
                tree = ("take", number % 4, few, tree)
                other = ("take", number % 4, other, few)
            self.assertIs(self.judge(tree), False)
            self.assertIs(self.judge(other), False)
            del tree, other

    def test_all_candidates_asked(self):
        # As deep as it can be: each candidate is asked, though there have been few for long.
        def tree(left):
            return ("take", left[0], ("few",), tree(left[1:])) if left else ("few",)

        self.assertIs(judge_cases(2, ".gw", 4, Eye.through("...."), 60, tree(list(range(31)))), True)
        self.assertIs(judge_cases(2, ".gw", 4, Eye.through("...."), 60, tree(list(range(30, -1, -1)))), True)
        self.assertIs(judge_cases(2, ".gw", 4, Eye.through("...."), 60, tree(list(range(32)))), False)


if __name__ == "__main__":
    unittest.main()
