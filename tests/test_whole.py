"""All points together: what one thing of the program tells holds with every other thing that speaks of it."""

import random
import unittest

from falseglim.borne import BorneLots
from falseglim.cautions import Cautions, careful_mind
from falseglim.changing import Changing
from falseglim.coasts import Coast
from falseglim.eyes import Eye
from falseglim.foldround import fold_round
from falseglim.heeding import Heeding, judge_heeding
from falseglim.hindsight import Hindsight, judge_hindsight
from falseglim.leaneye import lean_eye
from falseglim.letlots import LetLots
from falseglim.lightlots import light_lots
from falseglim.lookplans import LookPlan, judge_lookplan
from falseglim.makers import behind_glass, by_turns, either, marked, over, ring
from falseglim.minds import Mind
from falseglim.nights import Nights
from falseglim.notices import Notices, read_notices, write_notices
from falseglim.outlooks import Outlook
from falseglim.patience import Patience, judge_patience
from falseglim.readerpairs import ReaderPair, judge_readers, least_reader
from falseglim.readers import reader_of, reader_of_mind
from falseglim.readings import Readings
from falseglim.rhythmtext import read_round
from falseglim.rightreaders import RightReader, judge_right
from falseglim.sailing import sailed
from falseglim.seas import read_sea, write_sea
from falseglim.ships import Ships
from falseglim.sights import Sight
from falseglim.signals import read_signals, talking_light, talking_world, write_signals
from falseglim.timely import Timely, judge_timely
from falseglim.trust import Trust, judge_trust
from falseglim.watch import Watch
from falseglim.ways import failing, read_ways, write_ways
from falseglim.weathers import eye_of, read_weathers, write_weathers
from falseglim.within import Within, judge_within, let_the_same
from falseglim.worldpairs import WorldWithin, judge_worlds
from falseglim.worldtext import read_eye, read_world, write_eye, write_world
from tests.helpers import SIGNS, error_of, rows_to, some_eye, some_truth, some_world
from tests.lookouts import some_orders
from tests.test_changing import some_coasts
from tests.test_lookplans import some_case
from tests.test_notices import all_lots, some_notices
from tests.test_seas import some_sea
from tests.test_signals import some_signals

WEATHERS = (("lose", 1), ("lose", 3), ("miss", 1, 3), ("miss", 2, 4), ("take", "g", "w"), ("always", "w", "."), ("glow",), ("late",))
WAYS = (("glass", "...."), ("glass", ".wgr"), ("lame", 2), ("standin", "w."), ("restart", 1), ("slip", 3))


def behind(sight, look):
    """The standings to which a look leads, by the sight alone."""
    found = sight.opening
    for sign in look:
        found = sorted({later for standing in found for later in sight.behind(standing, sign)})
    return found


def pairs_behind(sight, pairs, look):
    """All pairs of standings to which a look leads from some pairs."""
    for sign in look:
        pairs = {tuple(sorted((one, other))) for first, second in pairs
                 for one in sight.behind(first, sign) for other in sight.behind(second, sign)}
    return pairs


def wrong_marks(sight, look, mark):
    """The true marks behind a look that are not this one."""
    return [sight.mark_of(standing) for standing in behind(sight, look) if sight.mark_of(standing) != mark]


class TestVerdicts(unittest.TestCase):
    def judged(self, verdict, judge, *parts):
        """Whether a verdict holds; if it does, its table is right, and no table without its beginning is."""
        if not verdict:
            self.assertIsNone(verdict.table)
            self.assertIsNotNone(verdict.breach)
            self.assertEqual((len(verdict), list(verdict)), (0, []))
            return False
        self.assertIsNone(verdict.breach)
        self.assertEqual((len(verdict), tuple(verdict)), (len(verdict.table), verdict.table))
        self.assertIsNone(judge(*parts, verdict.table))
        if verdict.table:
            self.assertEqual(judge(*parts, verdict.table[1:]), -1)
        return True

    def test_eyes_within(self):
        found = set()
        for seed in range(60):
            first, second = some_eye(seed, 2, more=seed % 3), some_eye(seed + 500 * (seed % 2), 2, more=4 + seed % 3)
            verdict = Within(first, second)
            holds = self.judged(verdict, judge_within, first, second)
            if not holds:
                shown, seen = verdict.breach
                self.assertEqual((first(shown, seen), second(shown, seen)), (True, False))
            self.assertIs(let_the_same(first, second), holds and bool(Within(second, first)))
            self.assertIs(let_the_same(first, lean_eye(first)), True)
            found.add(holds)
        self.assertEqual(found, {True, False})

    def test_sights_that_are_told_back(self):
        found = set()
        for seed in range(120):
            world, eye = some_world(seed, 2 + seed % 4, ".gw"), some_eye(seed, 1 + seed % 2, more=seed % 3)
            verdict = Hindsight(world, eye)
            holds = self.judged(verdict, judge_hindsight, world, eye)
            if not holds:
                (first, second), look, way, loop = verdict.breach
                sight = Sight(world, eye)
                opening = {(one, other) for one in sight.opening for other in sight.opening if one <= other}
                parted = {pair for pair in pairs_behind(sight, opening, look)
                          if (sight.mark_of(pair[0]), sight.mark_of(pair[1])) == (first, second)}
                self.assertTrue(first != second and parted)
                self.assertTrue(any(pair in pairs_behind(sight, {pair}, loop) for pair in pairs_behind(sight, parted, way)))
            found.add((holds, verdict.delay))
        self.assertGreater(len(found), 3)

    def test_truths(self):
        found, patient = set(), 0
        for seed in range(150):
            mind, world, eye = some_truth(seed)
            sight, watch = Sight(world, eye), Watch(mind)
            trust = Trust(mind, world, eye)
            holds = self.judged(trust, judge_trust, mind, world, eye)
            nights = Nights(mind, world, eye)
            self.assertIs(holds, nights.misled_pairs == ())
            if not holds:
                look, mark, standing = trust.breach
                self.assertEqual(mind.sure_of(mind(look)), mark)
                self.assertIn(standing, behind(sight, look))
                self.assertNotEqual(sight.mark_of(standing), mark)
                self.assertEqual(nights[nights.misled_pairs[0]], look)
            patience = Patience(mind, world, eye)
            if patience:
                self.assertIsNone(judge_patience(mind, world, eye, patience.least, patience.table))
                self.assertIs(patience.least == 0, holds)
                if patience.least:
                    watch.seen = patience.undoing
                    said = watch.says(patience.least - 1)
                    self.assertTrue(said is not None and wrong_marks(sight, patience.undoing, said))
                    self.assertIsNotNone(judge_patience(mind, world, eye, patience.least - 1, patience.table))
            else:
                look, loop, way = patience.breach
                for much in (0, 1, 7):
                    watch.seen = look + loop * much + way
                    said = watch.says(much)
                    self.assertTrue(said is not None and wrong_marks(sight, watch.seen, said))
                patient = patient + 1
            found.add((holds, bool(patience)))
        self.assertEqual(found, {(True, True), (False, True), (False, False)})
        self.assertGreater(patient, 5)

    def test_heeding(self):
        found = set()
        for seed in range(120):
            mind, world, eye = some_truth(seed)
            for marks in (("a",), ("b",), ("a", "b")):
                verdict = Heeding(mind, world, eye, marks)
                holds = self.judged(verdict, lambda *parts: judge_heeding(*parts), mind, world, eye, marks)
                if not holds:
                    look, loop = verdict.breach
                    for times in (0, 1, 5):
                        told = look + loop * times
                        self.assertTrue({sight.mark_of(one) for sight in [Sight(world, eye)] for one in behind(sight, told)}
                                        & set(marks))
                        self.assertFalse(set(mind.marks_of(mind(told))) <= set(marks))
                found.add((holds, verdict.delay))
        self.assertGreater(len(found), 3)

    def test_worlds_within(self):
        found = set()
        for seed in range(120):
            first = some_world(seed, 1 + seed % 4, ".w", ("a", "b"))
            second = some_world(seed + 900, 2 + seed % 4, ".w", ("a", "b")) if seed % 3 else failing(first, WAYS[seed % 6])
            verdict = WorldWithin(first, second)
            holds = self.judged(verdict, judge_worlds, first, second)
            if not holds:
                row, mark = verdict.breach
                self.assertIn(mark, [first[state][2] for state in first.ends(row)])
                self.assertNotIn(mark, [second[state][2] for state in second.ends(row)])
            found.add(holds)
            # A light that can fail in a way need never fail.
            self.assertTrue(seed % 3 or holds)
        self.assertEqual(found, {True, False})

    def test_truths_within_what_is_supposed(self):
        for seed in range(60):
            world, eye = some_world(seed, 1 + seed % 4, ".gw"), some_eye(seed, 2, more=seed % 3)
            wider = either(failing(world, WAYS[seed % 6]), some_world(seed + 77, 3, ".gw"))
            self.assertTrue(WorldWithin(world, wider))
            blur = Eye(sorted(set(eye.entries) | {(0, sign, ".", 0) for sign in SIGNS}))
            self.assertTrue(Within(eye, blur))
            mind = Mind(wider, blur)
            self.assertTrue(Trust(mind, world, eye))
            self.assertNotIn((), [knowledge for _, knowledge in Nights(mind, world, eye)])

    def test_readers(self):
        found = set()
        for seed in range(80):
            orders = some_orders(seed)
            reader, (mind, world, eye) = reader_of(orders), some_truth(seed)
            other = reader_of(some_orders(seed + 1000)) if seed % 2 else least_reader(reader)
            pair = error_of(ReaderPair, reader, other)
            if isinstance(pair, ReaderPair):
                same = self.judged(pair, judge_readers, reader, other)
                if not same:
                    self.assertNotEqual(reader(pair.breach), other(pair.breach))
                self.assertTrue(same or seed % 2)
                found.add(("pair", same))
            for one in (reader, reader_of_mind(mind)):
                right, timely = RightReader(one, world, eye), Timely(one, world, eye)
                holds = self.judged(right, judge_right, one, world, eye)
                if not holds:
                    look, word, standing = right.breach
                    self.assertEqual(one(look), (word, len(look)))
                    self.assertIn(standing, behind(Sight(world, eye), look))
                    self.assertNotEqual(world[standing[0]][2], word)
                found.add(("right", holds))
                holds = self.judged(timely, judge_timely, one, world, eye)
                if not holds:
                    look, loop = timely.breach
                    for times in (0, 1, 5):
                        self.assertIsNone(one(look + loop * times))
                        self.assertTrue(Sight(world, eye).can_see(look + loop * times))
                found.add(("timely", holds))
            if Trust(mind, world, eye):
                self.assertTrue(RightReader(reader_of_mind(mind), world, eye))
            for look in rows_to(3):
                self.assertEqual(orders.said(look), reader(look))
        self.assertEqual(len(found), 6)

    def test_what_a_reader_of_a_mind_says(self):
        for seed in range(30):
            mind, _, _ = some_truth(seed)
            reader, watch = reader_of_mind(mind), Watch(mind)
            for look in rows_to(3):
                watch.look_anew(look)
                said = reader(look)
                if said is None:
                    self.assertIsNone(watch.says())
                else:
                    watch.look_anew(look[:said[1]])
                    self.assertEqual(watch.says(), said[0])

    def test_outlooks(self):
        for seed in range(40):
            mind, _, _ = some_truth(seed)
            outlook = Outlook(mind)
            nights = Nights(mind, mind.world, mind.eye)
            self.assertEqual({knowledge for _, knowledge in nights}, set(outlook))
            for mark in outlook.sure_marks:
                self.assertEqual(mind.sure_of(mind(outlook.sure_look(mark))), mark)

    def test_look_plans(self):
        found = set()
        for seed in range(60):
            sea, worlds, eye = some_case(seed)
            plan = error_of(LookPlan, sea, worlds, eye)
            if isinstance(plan, LookPlan):
                self.assertIsNone(judge_lookplan(sea, worlds, eye, plan.table))
                self.assertEqual(judge_lookplan(sea, worlds, eye, plan.table[1:]), -1)
                found.add(bool(plan))
        self.assertEqual(found, {True, False})

    def test_coasts_that_are_changed(self):
        found = set()
        for seed in range(60):
            old, new = some_coasts(seed)
            verdict = error_of(Changing, old, new, Eye.fair(), Eye.fair(), hands=1 + seed % 3, lag=seed % 3)
            if not isinstance(verdict, Changing):
                continue
            if verdict:
                self.assertIsNone(verdict.judge_plan(verdict.plan))
                self.assertIsNone(verdict.lot)
                mixtures = ("o" * len(verdict.names),) + verdict.plan
                for at in range(1, len(mixtures)):
                    for chart in mixtures[max(0, at - verdict.lag):at + 1]:
                        self.assertIs(verdict.is_calm(chart, mixtures[at]), True)
                self.assertEqual(sorted(verdict.coast_of(mixtures[-1])), sorted(new))
            else:
                self.assertIsNone(verdict.plan)
                self.assertIsNone(verdict.judge_lot(verdict.lot))
            self.assertEqual(sorted(verdict.coast_of("o" * len(verdict.names))), sorted(old))
            found.add(bool(verdict))
        self.assertEqual(found, {True, False})


class TestLots(unittest.TestCase):
    def misled(self, mind, sight, look):
        """Whether the mind is sure of what is not so on some night with this look."""
        sure = mind.sure_of(mind(look))
        return sure is not None and wrong_marks(sight, look, sure) != []

    def test_borne_lots_and_cautions(self):
        found = set()
        for seed in range(25):
            mind, world, eye = some_truth(seed)
            menu = tuple(random.Random(seed).sample(WAYS, 2))
            borne = BorneLots(mind, (mind.world, world), eye, menu)
            cautions = (marked(ring("w", "x"), "b"), failing(mind.world, menu[0]))
            enough = Cautions(mind, world, eye, cautions)
            for lot in all_lots(2):
                spoiler = borne.spoiler(lot)
                self.assertIs(spoiler is None, any(set(lot) <= set(other) for other in borne.lots))
                if spoiler:
                    failed = failing((mind.world, world)[spoiler[0]], *[menu[number] for number in lot])
                    self.assertTrue(self.misled(mind, Sight(failed, eye), spoiler[1]))
                spoiler = enough.spoiler(lot)
                self.assertIs(spoiler is None, any(set(other) <= set(lot) for other in enough.lots))
                careful = careful_mind(mind, [cautions[number] for number in lot])
                self.assertIs(spoiler is None, bool(Trust(careful, world, eye)))
                if spoiler is not None:
                    self.assertTrue(self.misled(careful, Sight(world, eye), spoiler))
                found.update((("borne", borne.spoiler(lot) is None), ("enough", spoiler is None)))
        self.assertEqual(len(found), 4)

    def test_ships(self):
        misled = 0
        for seed in range(40):
            notices = Notices(Coast((("a", "w."), ("b", "w.g"))), some_notices(seed, seed % 5))
            eye = eye_of((("miss", 1, 3),))
            ships = Ships(notices, eye, Eye.fair())
            for lot in all_lots(len(notices)):
                told = ships.misled_by(lot)
                if told is not None:
                    name, look, mark = told
                    mind = Mind(notices.chart(lot).as_world(), eye)
                    self.assertEqual(mind.sure_of(mind(look)), mark)
                    self.assertNotEqual(name, mark)
                    self.assertTrue(Sight(ring(notices.true_coast[name], name), Eye.fair()).can_see(look))
                    misled = misled + 1
                if any(set(must) <= set(lot) for must in ships.must_hear):
                    self.assertIsNone(told)
            for digest in ships.digests:
                self.assertEqual(sorted(notices.chart(digest)), sorted(notices.true_coast))
        self.assertGreater(misled, 30)

    def test_signals_that_are_let(self):
        for seed in range(30):
            signals = some_signals(seed, most=2)
            mind = Mind(either(ring("w.", "a"), ring("g", "b")), Eye.fair())
            told = LetLots(signals, Eye.fair(), 60, mind, "a", Eye.fair())
            for lot in all_lots(len(signals)):
                self.assertIs(told.reason(lot) is None, any(set(lot) <= set(other) for other in told.lots))
            whole = tuple(range(len(signals)))
            near = bool(Hindsight(talking_world(signals), Eye.fair()))
            self.assertIs(told.reason(whole) == ("near",), not near)
            if near:
                self.assertIs(told.reason(whole) is None, bool(Trust(mind, talking_light(signals, "a"), Eye.fair())))

    def test_lots_of_lights(self):
        for seed in range(25):
            sea = some_sea(seed, 2, 1 + seed % 2)
            worlds = tuple(some_world(seed + number, 2) for number in range(len(sea.sectors[0])))
            for lot in light_lots(sea, worlds, Eye.fair(), 1, 60):
                world = sailed(sea, worlds, watch=lot)
                self.assertIsNone(judge_hindsight(world, Eye.fair(), Hindsight(world, Eye.fair()).table))

    def test_talks(self):
        for seed in range(40):
            signals, eye = some_signals(seed, most=2), eye_of((WEATHERS[seed % 8],))
            sight = Sight(talking_world(signals), eye)
            for look in rows_to(3, ".gw"):
                readings = Readings(signals, eye, look)
                self.assertIs(readings.number > 0, sight.can_see(look))
                for message in readings.each_message():
                    self.assertTrue(eye(signals(message)[:len(look)], look))
                    self.assertTrue(message.startswith(readings.sure))


class TestLines(unittest.TestCase):
    def test_there_and_back(self):
        for seed in range(60):
            chance = random.Random(seed)
            world, eye, sea = some_world(seed, 1 + seed % 9), some_eye(seed, 1 + seed % 5), some_sea(seed)
            self.assertEqual(read_world(write_world(world)), world)
            self.assertEqual(read_eye(write_eye(eye)), eye)
            self.assertEqual(read_sea(write_sea(sea)), sea)
            weathers, ways = tuple(chance.sample(WEATHERS, seed % 6)), tuple(chance.sample(WAYS, seed % 6))
            self.assertEqual(read_weathers(write_weathers(weathers)), weathers)
            self.assertEqual(read_ways(write_ways(ways)), ways)
            signals, coast = some_signals(seed), Coast((("a", "w"),))
            self.assertEqual(read_signals(write_signals(signals)), signals)
            notices = Notices(coast, some_notices(seed))
            self.assertEqual(read_notices(coast, write_notices(notices)), notices)
            row = "".join(chance.choice(SIGNS) for _ in range(1 + seed % 24))
            self.assertEqual(read_round(fold_round(row)), row)

    def test_made_worlds(self):
        # Made worlds are worlds like all others: their lines tell them.
        for seed in range(20):
            first, second = some_world(seed, 3), some_world(seed + 50, 2)
            for world in (either(first, second), over(first, second), by_turns(first, second, beats=2), marked(first, "x"),
                          behind_glass(first, "wgr."), failing(first, WAYS[seed % 6], mark="x"),
                          sailed(some_sea(seed, 2, 1), (first,), watch=(0,)), talking_world(some_signals(seed)),
                          talking_light(some_signals(seed), "x")):
                self.assertEqual(read_world(write_world(world)), world)
                self.assertTrue(WorldWithin(world, world))


if __name__ == "__main__":
    unittest.main()
