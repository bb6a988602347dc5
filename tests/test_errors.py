"""The errors, and their arguments."""

import unittest

from falseglim import errors

ARGUMENTS = """BadRow(number) BadSign(sign) BadRound(number) BadGlass(glass) BadMark(mark) BadShows(number)
BadGoes(number) BadBegins(begins) BadMarks(number) BadPlace(place) BadBeats(beats) BadWorlds(number) BadEntry(number)
Blind(state,sign) BadStanding(standing) BadKnowledge(knowledge) BadText(at) BadLine(line,word) BadWeather(number)
BadDelay(delay) BadWay(number) BadMenu(number) BadLot(lot) BadPatience(patience) BadOrder(number) BadReader(number)
BadRegion(number) BadWays(number) BadSector(number) BadWatch(watch) BadKind(word) BadLight(number) BadNotice(number)
BadHands(hands) BadLag(lag) BadMixture(mixture) BadMany(many) BadSigns(signs) BadMost(most) BadSignal(number)
BadMessage(number) BadName(name) TooMany(word) TooLong(number) NoState(state) NoPair(pair) NoKnowledge(knowledge)
NoLight(number) NoLine(number) NoValue() Unlit() Twice(name) Unknown(name) InUse(name) Torn(line)"""


class TestErrors(unittest.TestCase):
    def test_base_class(self):
        self.assertEqual(errors.GlimError.__bases__, (ValueError,))

    def test_each_error_keeps_what_it_is_made_with(self):
        words = ARGUMENTS.split()
        self.assertEqual(len(words), 55)
        for word in words:
            name, rest = word[:-1].split("(")
            names = [part for part in rest.split(",") if part]
            error = getattr(errors, name)
            self.assertEqual(error.__bases__, (errors.GlimError,), name)
            things = [[number] for number in range(len(names))]
            made = error(*things)
            self.assertEqual(vars(made), dict(zip(names, things)), name)
            for attribute, thing in zip(names, things):
                self.assertIs(getattr(made, attribute), thing)
            self.assertEqual(vars(error(**dict(zip(names, things)))), dict(zip(names, things)), name)

    def test_there_are_no_others(self):
        found = {name for name, thing in vars(errors).items() if isinstance(thing, type)}
        self.assertEqual(found, {word.split("(")[0] for word in ARGUMENTS.split()} | {"GlimError"})


if __name__ == "__main__":
    unittest.main()
