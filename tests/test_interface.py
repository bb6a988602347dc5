"""The names, parameters and places of the interface that have landed."""

import importlib
import inspect
import unittest

FUNCTIONS = {
    "makers": ("ring(row, mark, at=None)", "either(*worlds)", "over(first, second)", "by_turns(*worlds, beats=1)",
               "marked(world, mark)", "behind_glass(world, glass)"),
    "rhythmtext": ("read_round(text)",),
    "foldround": ("fold_round(row)",),
    "rounds": ("least_round(row)", "rhythm(row)", "turned(row, beats)", "alike(first, second)",
               "moments(first, second)", "parting(first, second)", "laid_over(first, second)"),
    "worldtext": ("write_world(world)", "write_eye(eye)", "read_world(lines)", "read_eye(lines)"),
    "weathers": ("is_weather(thing)", "eye_of(weathers)", "write_weathers(weathers)", "read_weathers(lines)"),
    "within": ("judge_within(first, second, table)", "let_the_same(first, second)"),
    "leaneye": ("classes(eye)", "lean_eye(eye)"),
    "leanweathers": ("needless_weathers(weathers)", "lean_weathers(weathers)", "exchangeable(weathers)"),
    "hindsight": ("judge_hindsight(world, eye, table)",),
    "bears": ("bears(world, beats, delay)",),
    "ways": ("is_way(thing)", "failing(world, *ways, mark=None)", "write_ways(ways)", "read_ways(lines)"),
    "heeding": ("judge_heeding(mind, world, eye, marks, table)",),
    "trust": ("judge_trust(mind, world, eye, table)",),
    "patience": ("judge_patience(mind, world, eye, patience, table)",),
    "worldpairs": ("judge_worlds(first, second, table)",),
    "watch": ("rehearsed(watch, deeds)", "foreseen(watch, *looks)"),
    "orders": ("write_orders(orders)", "read_orders(lines)"),
    "readers": ("reader_of(orders)", "reader_of_mind(mind)"),
    "readerpairs": ("judge_readers(first, second, table)", "least_reader(reader)"),
    "rightreaders": ("judge_right(reader, world, eye, table)",),
    "timely": ("judge_timely(reader, world, eye, table)",),
    "leanorders": ("needless(orders)", "lean_orders(orders)"),
    "seas": ("write_sea(sea)", "read_sea(lines)"),
    "sailing": ("sailed(sea, worlds, *, watch, beats=1, ask='region')",),
    "lightlots": ("light_lots(sea, worlds, eye, beats, delay)",),
    "lookplans": ("judge_lookplan(sea, worlds, eye, table)",),
    "notices": ("write_notices(notices)", "read_notices(coast, lines)"),
    "lighting": ("candidates(signs, most)", "apart(first, second, eye, delay)",
                 "judge_cases(many, signs, most, eye, delay, tree)"),
    "signals": ("talking_world(signals)", "talking_light(signals, name)", "write_signals(signals)",
                "read_signals(lines)"),
    "journal": ("write_journal(office)", "read_journal(lines)", "taken_up(lines)"),
}
VERDICT = ("__bool__(self)", "__len__(self)", "__iter__(self)")
CLASSES = {
    "worlds.World": ("__init__(self, shows, goes, begins, marks)", "__len__(self)", "__getitem__(self, state)",
                     "__iter__(self)", "__eq__(self, other)", "ends(self, row)"),
    "eyes.Eye": ("__init__(self, entries)", "__len__(self)", "__iter__(self)", "__eq__(self, other)",
                 "options(self, state, sign)", "__call__(self, shown, seen)", "__add__(self, other)"),
    "sights.Sight": ("__init__(self, world, eye)", "behind(self, standing, sign)", "signs_of(self, standing)",
                     "mark_of(self, standing)", "can_see(self, look)", "__contains__(self, standing)",
                     "__len__(self)", "__iter__(self)"),
    "minds.Mind": ("__init__(self, world, eye)", "__eq__(self, other)", "behind(self, knowledge, sign)",
                   "marks_of(self, knowledge)", "sure_of(self, knowledge)", "__call__(self, look)"),
    "nights.Nights": ("__init__(self, mind, world, eye)", "__len__(self)", "__iter__(self)",
                      "__contains__(self, pair)", "__getitem__(self, pair)", "behind(self, pair)"),
    "within.Within": ("__init__(self, first, second)",) + VERDICT,
    "backs.Backs": ("__init__(self, eye, look)", "__contains__(self, row)", "each_row(self)"),
    "hindsight.Hindsight": ("__init__(self, world, eye)",) + VERDICT,
    "outlooks.Outlook": ("__init__(self, mind)", "__len__(self)", "__iter__(self)", "__contains__(self, knowledge)",
                         "__getitem__(self, knowledge)", "sure_look(self, mark)"),
    "heeding.Heeding": ("__init__(self, mind, world, eye, marks)",) + VERDICT,
    "borne.BorneLots": ("__init__(self, mind, worlds, eye, menu)", "spoiler(self, lot)"),
    "trust.Trust": ("__init__(self, mind, world, eye)",) + VERDICT,
    "patience.Patience": ("__init__(self, mind, world, eye)",) + VERDICT,
    "worldpairs.WorldWithin": ("__init__(self, first, second)",) + VERDICT,
    "cautions.Cautions": ("__init__(self, mind, world, eye, menu)", "spoiler(self, lot)"),
    "watch.Watch": ("__init__(self, mind)", "see(self, sign)", "look_anew(self, look)", "says(self, patience=0)",
                    "copy(self)", "__eq__(self, other)"),
    "watch.Ahead": ("__init__(self, watch)", "__enter__(self)", "__exit__(self, kind, value, trace)"),
    "orders.Orders": ("__init__(self, lines)", "__len__(self)", "__getitem__(self, number)", "__iter__(self)",
                      "__eq__(self, other)", "said(self, look)"),
    "readers.Reader": ("__init__(self, rows)", "__len__(self)", "__iter__(self)", "__eq__(self, other)",
                       "__call__(self, look)"),
    "readerpairs.ReaderPair": ("__init__(self, first, second)",) + VERDICT,
    "rightreaders.RightReader": ("__init__(self, reader, world, eye)",) + VERDICT,
    "timely.Timely": ("__init__(self, reader, world, eye)",) + VERDICT,
    "seas.Sea": ("__init__(self, regions, ways, begins, sectors)", "__contains__(self, region)", "__len__(self)",
                 "__iter__(self)", "__getitem__(self, at)", "__eq__(self, other)"),
    "lookplans.LookPlan": ("__init__(self, sea, worlds, eye)", "behind(self, belief, light, sign)",
                           "play(self, row)") + VERDICT,
    "coasts.Coast": ("__init__(self, lights)", "__contains__(self, name)", "__getitem__(self, name)", "__len__(self)",
                     "__iter__(self)", "__eq__(self, other)", "as_world(self)"),
    "notices.Notices": ("__init__(self, coast, notices)", "__len__(self)", "__iter__(self)", "__eq__(self, other)",
                        "in_force(self, lot)", "chart(self, lot)"),
    "ships.Ships": ("__init__(self, notices, supposed, eye)", "misled_by(self, lot)"),
    "changing.Changing": ("__init__(self, old, new, supposed, eye, *, hands=1, lag=1, dark=True)", "__bool__(self)",
                          "coast_of(self, mixture)", "is_calm(self, chart, mixture)", "judge_plan(self, plan)",
                          "judge_lot(self, windows)"),
    "lighting.Lighting": ("__init__(self, many, signs, most, eye, delay)", "__bool__(self)"),
    "signals.Signals": ("__init__(self, plain, signals=())", "__len__(self)", "__iter__(self)", "__eq__(self, other)",
                        "__call__(self, message)"),
    "readings.Readings": ("__init__(self, signals, eye, look)", "__contains__(self, message)", "each_message(self)"),
    "letlots.LetLots": ("__init__(self, signals, near, delay, mind, name, far)", "reason(self, lot)"),
    "office.Office": ("__init__(self)", "keep_round(self, name, row)", "keep_weather(self, name, weathers)",
                      "keep_orders(self, name, lines)", "keep_coast(self, name, lights)", "strike(self, name)",
                      "__getitem__(self, name)", "__contains__(self, name)", "__len__(self)", "__iter__(self)",
                      "kind_of(self, name)", "copy(self)", "__eq__(self, other)"),
}
PROPERTIES = {
    "worlds.World": ("reached", "is_steady"),
    "eyes.Eye": ("states",),
    "sights.Sight": ("opening",),
    "minds.Mind": ("opening",),
    "nights.Nights": ("misled_pairs",),
    "outlooks.Outlook": ("sure_marks",),
    "watch.Watch": ("seen", "held"),
    "notices.Notices": ("true_coast",),
    "signals.Signals": ("pieces",),
    "office.Office": ("deeds",),
}


def module_of(name):
    return importlib.import_module("falseglim." + name)


class TestInterface(unittest.TestCase):
    def test_functions(self):
        for name, told in FUNCTIONS.items():
            for text in told:
                word = text.split("(")[0]
                function = getattr(module_of(name), word)
                self.assertEqual(word + str(inspect.signature(function)), text)
                self.assertEqual(function.__module__, "falseglim." + name)

    def test_methods(self):
        for place, told in CLASSES.items():
            name, word = place.split(".")
            own = vars(getattr(module_of(name), word))
            self.assertEqual(own["__module__"], "falseglim." + name)
            for text in told:
                method = text.split("(")[0]
                self.assertEqual(method + str(inspect.signature(own[method])), text, place)

    def test_properties(self):
        for place, told in PROPERTIES.items():
            name, word = place.split(".")
            for text in told:
                self.assertIsInstance(vars(getattr(module_of(name), word))[text], property)

    def test_class_methods(self):
        own = vars(module_of("eyes").Eye)
        self.assertIsInstance(own["fair"], classmethod)
        self.assertIsInstance(own["through"], classmethod)
        self.assertEqual(str(inspect.signature(module_of("eyes").Eye.through)), "(glass)")
        coast = module_of("coasts").Coast
        self.assertIsInstance(vars(coast)["of_texts"], classmethod)
        self.assertEqual(str(inspect.signature(coast.of_texts)), "(*pairs)")
        self.assertTrue(inspect.isgeneratorfunction(module_of("backs").Backs.each_row))
        self.assertTrue(inspect.isgeneratorfunction(module_of("readings").Readings.each_message))


if __name__ == "__main__":
    unittest.main()
