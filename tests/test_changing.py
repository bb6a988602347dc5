"""Points 45 and 46: a coast that is changed night by night, plans and lots of windows."""

import itertools
import random
import unittest

from falseglim.changing import Changing
from falseglim.coasts import Coast
from falseglim.eyes import Eye
from falseglim.makers import ring
from falseglim.minds import Mind
from falseglim.nights import Nights
from falseglim.weathers import eye_of
from tests.helpers import ODD, error_of, listed
from tests.test_coasts import some_lights
from tests.test_ships import heavy_eye

FAIR = Eye.fair()
# Two lights exchange their rounds.
OLD = Coast((("a", "w.."), ("b", "w...")))
NEW = Coast((("b", "w.."), ("a", "w...")))
NO_MIXTURES = tuple(odd for odd in ODD if odd != "") + (
    "", "o", "n", "ooo", "oO", "ow", "o ", ("o", "n"), ["o", "n"], "xxx", b"oo", 2)


class Told:
    """The words of the document, once more."""

    def __init__(self, old, new, supposed, eye, hands, lag, dark):
        self.old, self.new, self.supposed, self.eye = dict(old.lights), dict(new.lights), supposed, eye
        self.hands, self.lag, self.dark = hands, lag, dark
        self.names = tuple(sorted(name for name in {**self.old, **self.new}
                                  if self.old.get(name, 0) != self.new.get(name, 0)))
        self.first = ("o" * len(self.names),) * (lag + 1)
        self.known = {}

    def lights(self, mixture):
        lights = {name: row for name, row in self.old.items() if name not in self.names}
        for name, letter in zip(self.names, mixture):
            rounds = {"o": self.old, "n": self.new, "x": {}}[letter]
            if name in rounds:
                lights[name] = rounds[name]
        return tuple(sorted(lights.items()))

    def calm(self, chart, mixture):
        if (chart, mixture) not in self.known:
            self.known[(chart, mixture)] = not self.lights(chart) or not any(
                Nights(Mind(Coast(self.lights(chart)).as_world(), self.supposed), ring(row, name), self.eye).misled_pairs
                for name, row in self.lights(mixture))
        return self.known[(chart, mixture)]

    def nights(self, mixture):
        ways = {"o": "onx" if self.dark else "on", "x": "xn" if self.dark else "x", "n": "n"}
        for later in itertools.product(*[ways[letter] for letter in mixture]):
            if 1 <= sum(one != other for one, other in zip(mixture, later)) <= self.hands:
                yield "".join(later)

    def behind(self, window):
        windows = [window[1:] + (mixture,) for mixture in self.nights(window[-1])]
        return [later for later in windows if all(self.calm(chart, later[-1]) for chart in later)]

    def ended(self, window):
        return window[-1] == "n" * len(self.names)

    def all_windows(self):
        """A dict from all windows that are come to, to their least plans."""
        found, level = {self.first: ()}, {self.first: ()}
        while level:
            later = {}
            for window, plan in level.items():
                for other in [] if self.ended(window) else self.behind(window):
                    if other not in found:
                        later[other] = min(later.get(other, plan + other[-1:]), plan + other[-1:])
            found.update(later)
            level = later
        return found


def some_coasts(seed):
    chance = random.Random(seed)
    lights = some_lights(seed, 1 + seed % 3, most=3)
    later = {name: row for name, row in lights if chance.random() < 0.7}
    for name, row in some_lights(seed + 1000, 2, most=3):
        if chance.random() < 0.6:
            later[name] = row
    for name in list(later):
        if chance.random() < 0.4:
            later[name] = chance.choice(("w", "w.", ".g", "wg", "w.."))
    return Coast(lights), Coast(tuple(later.items()))


class TestChanging(unittest.TestCase):
    def test_attributes(self):
        supposed, eye = Eye.fair(), Eye.fair()
        verdict = Changing(OLD, NEW, supposed, eye)
        self.assertIs(verdict.old, OLD)
        self.assertIs(verdict.new, NEW)
        self.assertIs(verdict.supposed, supposed)
        self.assertIs(verdict.eye, eye)
        self.assertEqual((verdict.hands, verdict.lag, verdict.dark), (1, 1, True))
        other = Changing(OLD, NEW, supposed, eye, hands=2, lag=0, dark=False)
        self.assertEqual((other.hands, other.lag, other.dark), (2, 0, False))
        self.assertEqual((verdict.names, other.names), (("a", "b"), ("a", "b")))

    def test_names(self):
        old = Coast((("z", "w"), ("same", "w.."), ("c", "g."), ("gone", "r"), ("a", "w.")))
        new = Coast((("a", "w.w."), ("same", "w.."), ("z", "w"), ("b", "g"), ("c", "g.")))
        # Rounds that are not equal strings, though they are alike; names that only one of them has.
        self.assertEqual(Changing(old, new, FAIR, FAIR).names, ("a", "b", "gone"))
        self.assertEqual(Changing(old, old, FAIR, FAIR).names, ())
        self.assertIsInstance(Changing(old, new, FAIR, FAIR).names, tuple)

    def test_coasts_of_mixtures(self):
        old = Coast((("z", "w"), ("gone", "r"), ("a", "w.")))
        new = Coast((("b", "g"), ("a", "w.."), ("z", "w")))
        verdict = Changing(old, new, FAIR, FAIR)
        self.assertEqual(verdict.names, ("a", "b", "gone"))
        for mixture, lights in (
                ("ooo", (("a", "w."), ("gone", "r"), ("z", "w"))), ("nnn", (("a", "w.."), ("b", "g"), ("z", "w"))),
                ("xxx", (("z", "w"),)), ("non", (("a", "w.."), ("z", "w"))), ("xno", (("b", "g"), ("gone", "r"), ("z", "w")))):
            self.assertIsInstance(verdict.coast_of(mixture), Coast)
            self.assertEqual(verdict.coast_of(mixture).lights, lights)
        # The letter x is one of a mixture also where no light can be put out.
        self.assertEqual(Changing(old, new, FAIR, FAIR, dark=False).coast_of("xxx").lights, (("z", "w"),))

    def test_a_plan(self):
        verdict = Changing(OLD, NEW, FAIR, FAIR, hands=2)
        self.assertIs(bool(verdict), True)
        self.assertEqual(verdict.plan, ("xx", "nn"))
        self.assertIsNone(verdict.lot)
        # With both hands at once where no elder chart is aboard; with one hand one light behind the other.
        self.assertEqual(Changing(OLD, NEW, FAIR, FAIR, hands=2, lag=0).plan, ("nn",))
        self.assertEqual(Changing(OLD, NEW, FAIR, FAIR, lag=0).plan, ("no", "nn"))

    def test_no_plan(self):
        verdict = Changing(OLD, NEW, FAIR, FAIR, dark=False)
        self.assertIs(bool(verdict), False)
        self.assertIsNone(verdict.plan)
        self.assertEqual(verdict.lot, (("oo", "oo"),))
        verdict = Changing(OLD, NEW, FAIR, FAIR)
        self.assertEqual(verdict.lot, (
            ("oo", "oo"), ("oo", "ox"), ("oo", "xo"), ("ox", "nx"), ("ox", "xx"), ("xo", "xn"), ("xo", "xx"), ("xx", "nx"),
            ("xx", "xn")))
        self.assertIsNone(verdict.plan)

    def test_the_empty_plan(self):
        for lag in (0, 1, 2):
            verdict = Changing(OLD, Coast(OLD.lights[::-1]), FAIR, FAIR, lag=lag)
            self.assertEqual((verdict.names, verdict.plan, verdict.lot, bool(verdict)), ((), (), None, True))
            self.assertEqual(verdict.coast_of("").lights, OLD.lights)
            self.assertIs(verdict.is_calm("", ""), True)
        # There is nothing to be changed, even if ships are misled there.
        worse = Changing(OLD, OLD, FAIR, eye_of((("miss", 1, 4),)))
        self.assertEqual((worse.plan, worse.is_calm("", "")), ((), False))

    def test_the_first_of_several_plans(self):
        # Two new lights, in whichever order: as tuples, `no` is ahead of `on`.
        two = Changing(Coast(()), Coast((("a", "g"), ("b", "r"))), FAIR, FAIR, lag=0)
        self.assertEqual(two.plan, ("no", "nn"))
        self.assertEqual(Changing(Coast(()), Coast((("a", "g"), ("b", "r"))), FAIR, FAIR, hands=2, lag=0).plan, ("nn",))
        self.assertEqual(Changing(OLD, Coast(OLD.lights + (("c", "g"), ("d", "r"), ("e", "gr"))), FAIR, FAIR, hands=2, lag=0).plan,
                         ("nno", "nnn"))

    def test_a_lit_sea_again(self):
        # Nothing was there: an elder chart without lights misleads nobody, one with a single light does.
        verdict = Changing(Coast(()), Coast((("a", "g"), ("b", "r"))), FAIR, FAIR, hands=2)
        self.assertEqual(verdict.plan, ("nn",))
        for chart in ("oo", "xx", "ox"):
            self.assertEqual(verdict.coast_of(chart), Coast(()))
            for mixture in ("oo", "nn", "no", "xn"):
                self.assertIs(verdict.is_calm(chart, mixture), True)
        self.assertIs(verdict.is_calm("no", "nn"), False)
        self.assertIs(verdict.is_calm("no", "oo"), True)
        verdict = Changing(Coast(()), Coast((("a", "g"), ("b", "r"))), FAIR, FAIR, hands=1)
        self.assertIsNone(verdict.plan)

    def test_calm(self):
        verdict = Changing(OLD, NEW, FAIR, FAIR)
        for chart, mixture, told in (("oo", "oo", True), ("nn", "nn", True), ("oo", "nn", False), ("oo", "no", False),
                                     ("xx", "nn", True), ("nn", "xx", True), ("ox", "xo", False), ("on", "oo", True),
                                     ("oo", "ox", True), ("on", "no", True), ("ox", "nx", True), ("ox", "xn", False)):
            self.assertIs(verdict.is_calm(chart, mixture), told, (chart, mixture))

    def test_against_the_words(self):
        found, longest, lots = set(), 0, 0
        for seed in range(150):
            old, new = some_coasts(seed)
            supposed = (FAIR, eye_of((("lose", 1),)))[seed % 2]
            hands, lag, dark = 1 + seed % 4, seed % 3, seed % 5 > 0
            told = Told(old, new, supposed, FAIR, hands, lag, dark)
            if len(told.names) > 3:
                continue
            windows = told.all_windows()
            verdict = error_of(Changing, old, new, supposed, FAIR, hands=hands, lag=lag, dark=dark)
            if len(windows) > 400:
                self.assertEqual(verdict, ("TooMany", "window"))
                continue
            plans = [plan for window, plan in windows.items() if told.ended(window)]
            best = min(plans, key=lambda plan: (len(plan), plan), default=None)
            self.assertEqual((verdict.names, verdict.plan), (told.names, best))
            self.assertEqual(verdict.lot, None if plans else tuple(sorted(windows)))
            for _ in range(5):
                chart, mixture = ("".join(random.Random(seed + at).choices("nox", k=len(told.names))) for at in (0, 1))
                self.assertIs(verdict.is_calm(chart, mixture), told.calm(chart, mixture))
                self.assertEqual(verdict.coast_of(mixture).lights, told.lights(mixture))
            found.add((len(told.names), hands, lag, bool(verdict)))
            longest = max(longest, len(best or ()))
            lots = max(lots, len(verdict.lot or ()))
        self.assertGreater(len(found), 30)
        self.assertGreater(longest, 2)
        self.assertGreater(lots, 10)

    def test_what_is_passed_is_not_changed(self):
        Changing(OLD, NEW, FAIR, FAIR, hands=2)
        self.assertEqual((OLD.lights, NEW.lights), ((("a", "w.."), ("b", "w...")), (("b", "w.."), ("a", "w..."))))


class TestErrors(unittest.TestCase):
    def test_hands_and_lags(self):
        for odd in [thing for thing in ODD if type(thing) is not int] + [0, 5, -1, "1", (1,), 10 ** 39]:
            told = error_of(Changing, OLD, NEW, FAIR, FAIR, hands=odd, lag=None)
            self.assertEqual(told[0], "BadHands")
            self.assertIs(told[1], odd)
        nine = Coast([(name, "w") for name in "abcdefgh"])
        for odd in [thing for thing in ODD if type(thing) is not int] + [3, -1, "1", (1,), 10 ** 39]:
            told = error_of(Changing, nine, Coast(()), FAIR, FAIR, hands=4, lag=odd)
            self.assertEqual(told[0], "BadLag")
            self.assertIs(told[1], odd)

    def test_four_changed_lights_and_five(self):
        lights = tuple((name, "w.") for name in "abcdefgh")
        for many in range(5):
            verdict = Changing(Coast(lights), Coast(lights[many:]), FAIR, FAIR, lag=0)
            self.assertEqual(len(verdict.names), many)
        self.assertEqual(error_of(Changing, Coast(lights), Coast(lights[5:]), FAIR, FAIR), ("TooMany", "light"))
        self.assertEqual(error_of(Changing, Coast(()), Coast(lights[:5]), FAIR, FAIR), ("TooMany", "light"))
        changed = tuple((name, "g") for name in "abcde")
        self.assertEqual(error_of(Changing, Coast(lights), Coast(changed + lights[5:]), FAIR, FAIR), ("TooMany", "light"))

    def test_more_than_eight_lights_together(self):
        lights = tuple((name, "w.") for name in "abcdefghi")
        self.assertEqual(error_of(Changing, Coast(lights[:8]), Coast(lights[1:]), FAIR, FAIR), ("TooMany", "light"))
        self.assertEqual(len(Changing(Coast(lights[:7]), Coast(lights[1:8]), FAIR, FAIR, lag=0).names), 2)
        self.assertEqual(error_of(Changing, Coast(lights[:6]), Coast(lights[3:]), FAIR, FAIR), ("TooMany", "light"))

    def test_four_hundred_windows(self):
        # Each of the lights shows green, whatever is done: the charts tell nothing, and all nights are let.
        many = [(name, "g") for name in "abcdef"]
        old, new = Coast(many), Coast([(name, "gg" if name in "abcd" else "g") for name, _ in many])
        for lag in (1, 2):
            self.assertEqual(error_of(Changing, old, new, FAIR, FAIR, hands=4, lag=lag), ("TooMany", "window"))
        self.assertEqual(Changing(old, new, FAIR, FAIR).plan, ("nooo", "nnoo", "nnno", "nnnn"))
        # Where there is no plan, too: red is seen as white, so the two lights that are new are never calm together.
        always = eye_of((("always", "r", "w"),))
        old = Coast((("c", "g"), ("d", "g")))
        new = Coast((("a", "r"), ("b", "w"), ("c", "gg"), ("d", "gg")))
        self.assertFalse(Told(old, new, FAIR, always, 4, 2, True).calm("nnnn", "nnnn"))
        self.assertEqual(error_of(Changing, old, new, FAIR, always, hands=4, lag=2), ("TooMany", "window"))
        few = Changing(old, new, FAIR, always, hands=4, lag=0)
        self.assertEqual((few.plan, len(few.lot)), (None, 72))

    def test_the_count_of_windows(self):
        found = set()
        many = [(name, "g") for name in "abcd"]
        for hands, lag, dark, changed in ((4, 0, True, 4), (1, 1, True, 4), (2, 1, True, 3), (1, 2, True, 3), (1, 2, False, 4),
                                          (4, 2, False, 4), (1, 2, True, 4), (2, 2, True, 3), (2, 1, True, 4)):
            old, new = Coast(many), Coast([(name, "gg" if name in "abcd"[:changed] else "g") for name, _ in many])
            count = len(Told(old, new, FAIR, FAIR, hands, lag, dark).all_windows())
            told = error_of(Changing, old, new, FAIR, FAIR, hands=hands, lag=lag, dark=dark)
            self.assertEqual(told == ("TooMany", "window"), count > 400, (hands, lag, dark, changed, count))
            found.add(count > 400)
        self.assertEqual(found, {True, False})

    def test_exactly_four_hundred_windows(self):
        # In both cases with a plan and without one.
        for many, old, new, hands, lag, plan in (
                (400, "c gg e w..", "b r", 4, 2, ("nnn",)),
                (400, "a g b wg c w.. d w.", "a g d .g e g", 1, 2, None),
                (401, "a w. b w. d ww", "a w b gg f .g", 2, 1, ("onon", "onnn", "nnnn")),
                (401, "c g d gr e wg", "c w. d g e wg f .g a r", 2, 2, None)):
            old, new = (Coast(tuple(zip(text.split()[::2], text.split()[1::2]))) for text in (old, new))
            windows = Told(old, new, FAIR, FAIR, hands, lag, True).all_windows()
            self.assertEqual(len(windows), many)
            verdict = error_of(Changing, old, new, FAIR, FAIR, hands=hands, lag=lag)
            if many > 400:
                self.assertEqual(verdict, ("TooMany", "window"))
            else:
                self.assertEqual(verdict.plan, plan)
                self.assertEqual(verdict.lot, tuple(sorted(windows)) if plan is None else None)

    def test_bad_mixtures(self):
        verdict = Changing(OLD, NEW, FAIR, FAIR)
        for odd in NO_MIXTURES:
            for call in (verdict.coast_of, lambda thing: verdict.is_calm(thing, None), lambda thing: verdict.is_calm("ox", thing)):
                told = error_of(call, odd)
                self.assertEqual(told[0], "BadMixture")
                self.assertIs(told[1], odd)

    def test_states_and_nights(self):
        large = [(name, "w" * 24) for name in "abcd"]
        old, new = Coast(large + [("e", "w")]), Coast(large + [("e", "g")])
        self.assertEqual(error_of(Changing, old, new, FAIR, FAIR), ("TooMany", "state"))
        heavy = heavy_eye()
        old, new = Coast((("a", "w" * 24), ("b", "g"))), Coast((("a", "w" * 24), ("b", "w")))
        self.assertEqual(error_of(Changing, old, new, heavy, heavy), ("TooMany", "night"))
        # Nothing is asked where nothing is to be changed; then it is due where it is asked.
        calm = Changing(old, old, heavy, heavy)
        self.assertEqual(calm.plan, ())
        self.assertEqual(error_of(calm.is_calm, "", ""), ("TooMany", "night"))
        full = Changing(Coast(large + [("e", "w")]), Coast(large + [("e", "w")]), FAIR, FAIR)
        self.assertEqual(error_of(full.is_calm, "", ""), ("TooMany", "state"))


class TestJudgePlan(unittest.TestCase):
    def setUp(self):
        self.verdict = Changing(OLD, NEW, FAIR, FAIR, hands=2)

    def test_right_plans(self):
        self.assertIsNone(self.verdict.judge_plan(self.verdict.plan))
        self.assertIsNone(self.verdict.judge_plan(list(self.verdict.plan)))
        # Others that take as many nights or more.
        more = Changing(Coast(()), Coast((("a", "g"), ("b", "r"))), FAIR, FAIR, hands=2, lag=0)
        for plan in (("nn",), ("no", "nn"), ("on", "nn"), ("xx", "nn"), ("ox", "xx", "nx", "nn")):
            self.assertIsNone(more.judge_plan(plan))

    def test_a_beginning_of_one(self):
        self.assertEqual(self.verdict.judge_plan(()), 0)
        self.assertEqual(self.verdict.judge_plan(("xx",)), 1)
        self.assertEqual(self.verdict.judge_plan(("ox", "xx")), 2)

    def test_things_that_are_no_mixtures(self):
        for odd in NO_MIXTURES:
            self.assertEqual(self.verdict.judge_plan((odd,)), 0)
            self.assertEqual(self.verdict.judge_plan(("xx", odd, None)), 1)

    def test_nights_that_are_not_let(self):
        # Too many hands, nothing at all, letters that cannot be changed so, a night that is not calm.
        one = Changing(OLD, NEW, FAIR, FAIR)
        self.assertEqual(one.judge_plan(("xx",)), 0)
        self.assertEqual(one.judge_plan(("ox", "nx", "nn")), 2)
        self.assertEqual(self.verdict.judge_plan(("oo",)), 0)
        self.assertEqual(self.verdict.judge_plan(("ox", "oo")), 1)
        self.assertEqual(self.verdict.judge_plan(("xx", "xo")), 1)
        self.assertEqual(self.verdict.judge_plan(("nn",)), 0)
        self.assertEqual(self.verdict.judge_plan(("ox", "xn")), 1)
        self.assertEqual(Changing(OLD, NEW, FAIR, FAIR, hands=2, dark=False).judge_plan(("xx", "nn")), 0)
        # The lag: what is calm for the chart of the last night need not be so for that of the one before.
        late = Changing(OLD, NEW, FAIR, FAIR, hands=2, lag=2)
        self.assertEqual(late.judge_plan(("xx", "nn")), 1)

    def test_a_night_too_much(self):
        for more in ("nn", "xx", "oo", "no", "on", None):
            self.assertEqual(self.verdict.judge_plan(("xx", "nn", more)), 2)

    def test_the_empty_plan(self):
        same = Changing(OLD, OLD, FAIR, FAIR)
        self.assertIsNone(same.judge_plan(()))
        self.assertIsNone(same.judge_plan([]))
        self.assertEqual(same.judge_plan(("",)), 0)
        self.assertEqual(same.judge_plan(("o",)), 0)

    def test_against_the_words(self):
        counts = {}
        for seed in range(120):
            old, new = some_coasts(seed)
            told = Told(old, new, FAIR, FAIR, 1 + seed % 3, seed % 3, True)
            if len(told.names) > 3:
                continue
            verdict = error_of(Changing, old, new, FAIR, FAIR, hands=1 + seed % 3, lag=seed % 3)
            if not isinstance(verdict, Changing):
                continue
            chance = random.Random(seed)
            for _ in range(12):
                window, plan, wrong = told.first, [], None
                for _ in range(chance.randint(0, 4)):
                    later = [window[1:] + (mixture,) for mixture in told.nights(window[-1])]
                    good = told.behind(window)
                    if chance.random() < 0.85 and good:
                        window = chance.choice(good)
                    elif later:
                        window = chance.choice(later)
                    else:
                        window = window[1:] + window[-1:]
                    plan.append(window[-1])
                    if wrong is None and window not in good:
                        wrong = len(plan) - 1
                if wrong is None and not told.ended(window):
                    wrong = len(plan)
                self.assertEqual(verdict.judge_plan(tuple(plan)), wrong)
                kind = "none" if wrong is None else "end" if wrong == len(plan) else "night"
                counts[kind] = counts.get(kind, 0) + 1
        self.assertEqual(len(counts), 3)


class TestJudgeLot(unittest.TestCase):
    def setUp(self):
        self.verdict = Changing(OLD, NEW, FAIR, FAIR)
        self.lot = self.verdict.lot

    def test_right_lots(self):
        self.assertIsNone(self.verdict.judge_lot(self.lot))
        self.assertIsNone(self.verdict.judge_lot(listed(self.lot)))
        self.assertIsNone(self.verdict.judge_lot(self.lot[::-1]))
        self.assertIsNone(self.verdict.judge_lot(self.lot + self.lot))

    def test_the_first_window_is_lacking(self):
        self.assertEqual(self.verdict.judge_lot(()), -1)
        self.assertEqual(self.verdict.judge_lot(self.lot[1:]), -1)
        self.assertEqual(self.verdict.judge_lot((None,) + self.lot[1:]), -1)
        self.assertEqual(self.verdict.judge_lot((("nn", "nn"),)), -1)

    def test_windows_that_are_lacking(self):
        told = Told(OLD, NEW, FAIR, FAIR, 1, 1, True)
        for number, missing in enumerate(self.lot[1:], 1):
            left = self.lot[:number] + self.lot[number + 1:]
            needing = [at for at, window in enumerate(left) if missing in told.behind(window)]
            self.assertEqual(self.verdict.judge_lot(left), needing[0] if needing else None)

    def test_things_that_are_no_windows(self):
        for odd in NO_MIXTURES + (("oo",), ("oo", "oo", "oo"), ("oo", "o"), ("oo", None), "oooo", {"oo": 1, "ox": 2}):
            self.assertEqual(self.verdict.judge_lot(self.lot + (odd,)), len(self.lot))
            self.assertEqual(self.verdict.judge_lot((odd,) + self.lot), 0)

    def test_windows_at_the_end(self):
        for window in (("nn", "nn"), ("xx", "nn"), ("oo", "nn")):
            self.assertEqual(self.verdict.judge_lot(self.lot + (window,)), len(self.lot))
            self.assertEqual(self.verdict.judge_lot((window,) + self.lot), 0)
        same = Changing(OLD, OLD, FAIR, FAIR)
        self.assertEqual(same.judge_lot((("", ""),)), 0)
        self.assertEqual(same.judge_lot(()), -1)

    def test_windows_that_are_never_come_to(self):
        # From here a night that is let leads to the end, or out of the lot, or nowhere.
        told = Told(OLD, NEW, FAIR, FAIR, 1, 1, True)
        for window in (("nx", "nx"), ("xx", "xx"), ("no", "no"), ("ox", "ox"), ("on", "no")):
            good = all(later in self.lot + (window,) for later in told.behind(window))
            self.assertEqual(self.verdict.judge_lot(self.lot + (window,)), None if good else len(self.lot), window)

    def test_lights_that_are_out_and_cannot_be_put_out(self):
        # A window can have the letter x; but without being put out no light is lit again either.
        dark = Changing(OLD, NEW, FAIR, FAIR, dark=False)
        self.assertIsNone(dark.judge_lot((("oo", "oo"), ("xx", "xx"), ("nx", "xx"))))
        self.assertEqual(self.verdict.judge_lot(self.lot + (("xx", "xx"),)), None)
        self.assertEqual(self.verdict.judge_lot((("oo", "oo"), ("xx", "xx"))), 0)
        self.assertEqual(self.verdict.judge_lot((("xx", "xx"),) + self.lot[:7]), 0)

    def test_no_lot_is_closed_where_there_is_a_plan(self):
        verdict = Changing(OLD, NEW, FAIR, FAIR, hands=2)
        windows = [("oo", "oo")] + [(one, other) for one in ("oo", "ox", "xo", "xx", "nx", "xn") for other in (
            "ox", "xo", "xx", "nx", "xn", "no", "on")]
        self.assertIsNotNone(verdict.judge_lot(tuple(windows)))

    def test_each_verdict_with_a_lot(self):
        lots = 0
        for seed in range(100):
            old, new = some_coasts(seed)
            verdict = error_of(Changing, old, new, FAIR, FAIR, hands=1 + seed % 2, lag=seed % 3, dark=seed % 2 == 0)
            if isinstance(verdict, Changing) and verdict:
                self.assertIsNone(verdict.judge_plan(verdict.plan))
            elif isinstance(verdict, Changing):
                self.assertIsNone(verdict.judge_lot(verdict.lot))
                lots = lots + (len(verdict.lot) > 1)
        self.assertGreater(lots, 5)

    def test_states_that_are_due(self):
        dark = tuple((name, "." * 24) for name in "cde")
        old = Coast((("a", "w.."), ("b", "w...")) + dark)
        new = Coast((("a", "w...w...w...."), ("b", "w..w..w..w...")) + dark)
        verdict = Changing(old, new, FAIR, FAIR, dark=False)
        self.assertEqual(verdict.lot, (("oo", "oo"),))
        self.assertEqual(verdict.judge_plan(("no", "nn")), 0)
        # From a window that is never come to a night leads to the new coast, whose world is too large.
        for call, parts in ((verdict.judge_lot, ((("oo", "oo"), ("no", "no")),)), (verdict.is_calm, ("nn", "nn"))):
            self.assertEqual(error_of(call, *parts), ("TooMany", "state"))
        self.assertEqual(verdict.judge_lot((("oo", "oo"), None, ("no", "no"))), 1)


if __name__ == "__main__":
    unittest.main()
