"""All errors of the program; each keeps what it was made with in attributes of the same names."""


class GlimError(ValueError):
    """Whatever the program refuses."""


class BadRow(GlimError):
    def __init__(self, number):
        self.number = number


class BadSign(GlimError):
    def __init__(self, sign):
        self.sign = sign


class BadRound(GlimError):
    def __init__(self, number):
        self.number = number


class BadGlass(GlimError):
    def __init__(self, glass):
        self.glass = glass


class BadMark(GlimError):
    def __init__(self, mark):
        self.mark = mark


class BadShows(GlimError):
    def __init__(self, number):
        self.number = number


class BadGoes(GlimError):
    def __init__(self, number):
        self.number = number


class BadBegins(GlimError):
    def __init__(self, begins):
        self.begins = begins


class BadMarks(GlimError):
    def __init__(self, number):
        self.number = number


class BadPlace(GlimError):
    def __init__(self, place):
        self.place = place


class BadBeats(GlimError):
    def __init__(self, beats):
        self.beats = beats


class BadWorlds(GlimError):
    def __init__(self, number):
        self.number = number


class BadEntry(GlimError):
    def __init__(self, number):
        self.number = number


class Blind(GlimError):
    def __init__(self, state, sign):
        self.state = state
        self.sign = sign


class BadStanding(GlimError):
    def __init__(self, standing):
        self.standing = standing


class BadKnowledge(GlimError):
    def __init__(self, knowledge):
        self.knowledge = knowledge


class BadText(GlimError):
    def __init__(self, at):
        self.at = at


class BadLine(GlimError):
    def __init__(self, line, word):
        self.line = line
        self.word = word


class BadWeather(GlimError):
    def __init__(self, number):
        self.number = number


class BadDelay(GlimError):
    def __init__(self, delay):
        self.delay = delay


class BadWay(GlimError):
    def __init__(self, number):
        self.number = number


class BadMenu(GlimError):
    def __init__(self, number):
        self.number = number


class BadLot(GlimError):
    def __init__(self, lot):
        self.lot = lot


class BadPatience(GlimError):
    def __init__(self, patience):
        self.patience = patience


class BadOrder(GlimError):
    def __init__(self, number):
        self.number = number


class BadReader(GlimError):
    def __init__(self, number):
        self.number = number


class BadRegion(GlimError):
    def __init__(self, number):
        self.number = number


class BadWays(GlimError):
    def __init__(self, number):
        self.number = number


class BadSector(GlimError):
    def __init__(self, number):
        self.number = number


class BadWatch(GlimError):
    def __init__(self, watch):
        self.watch = watch


class BadKind(GlimError):
    def __init__(self, word):
        self.word = word


class BadLight(GlimError):
    def __init__(self, number):
        self.number = number


class BadNotice(GlimError):
    def __init__(self, number):
        self.number = number


class BadHands(GlimError):
    def __init__(self, hands):
        self.hands = hands


class BadLag(GlimError):
    def __init__(self, lag):
        self.lag = lag


class BadMixture(GlimError):
    def __init__(self, mixture):
        self.mixture = mixture


class BadMany(GlimError):
    def __init__(self, many):
        self.many = many


class BadSigns(GlimError):
    def __init__(self, signs):
        self.signs = signs


class BadMost(GlimError):
    def __init__(self, most):
        self.most = most


class BadSignal(GlimError):
    def __init__(self, number):
        self.number = number


class BadMessage(GlimError):
    def __init__(self, number):
        self.number = number


class BadName(GlimError):
    def __init__(self, name):
        self.name = name


class TooMany(GlimError):
    def __init__(self, word):
        self.word = word


class TooLong(GlimError):
    def __init__(self, number):
        self.number = number


class NoState(GlimError):
    def __init__(self, state):
        self.state = state


class NoPair(GlimError):
    def __init__(self, pair):
        self.pair = pair


class NoKnowledge(GlimError):
    def __init__(self, knowledge):
        self.knowledge = knowledge


class NoLight(GlimError):
    def __init__(self, number):
        self.number = number


class NoLine(GlimError):
    def __init__(self, number):
        self.number = number


class NoValue(GlimError):
    """Raised where the first belief has no value."""


class Unlit(GlimError):
    """Raised where there is no light."""


class Twice(GlimError):
    def __init__(self, name):
        self.name = name


class Unknown(GlimError):
    def __init__(self, name):
        self.name = name


class InUse(GlimError):
    def __init__(self, name):
        self.name = name


class Torn(GlimError):
    def __init__(self, line):
        self.line = line
