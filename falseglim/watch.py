"""A watch: a mind at work, beat by beat."""

from falseglim.errors import BadRow
from falseglim.minds import marks_among, only_mark
from falseglim.patience import check_patience
from falseglim.signs import MOST_SIGNS, check_row, check_sign


class Moment:
    """The look up to a moment, what a mind knows then, the marks of this, and for how many moments they have been so.

    The present moment counts among these. (With the same marks the mind was sure of the same mark, or of none.)
    """

    def __init__(self, look, knowledge, marks, run):
        self.look = look
        self.knowledge = knowledge
        self.marks = marks
        self.run = run


def first_moment(mind):
    """The moment ahead of the first beat."""
    return Moment("", mind.opening, marks_among(mind.world, mind.opening), 1)


def moment_behind(mind, moment, sign):
    """The moment behind one beat more."""
    knowledge = mind.sight.onward(moment.knowledge, sign)
    marks = marks_among(mind.world, knowledge)
    run = moment.run + 1 if marks == moment.marks else 1
    return Moment(moment.look + sign, knowledge, marks, run)


class Watch:
    """A mind, and what it has seen so far."""

    def __init__(self, mind):
        self.mind = mind
        # A moment is never changed: whoever keeps one keeps all that the watch was then.
        self.moment = first_moment(mind)

    def __eq__(self, other):
        return isinstance(other, Watch) and self.mind == other.mind and self.moment.look == other.moment.look

    @property
    def seen(self):
        """The look so far; it can be set."""
        return self.moment.look

    @seen.setter
    def seen(self, value):
        self.look_anew(value)

    @property
    def held(self):
        """The knowledge at this moment."""
        return self.moment.knowledge

    def see(self, sign):
        """One beat more is looked at; returns the marks of the knowledge then."""
        check_sign(sign)
        if len(self.moment.look) >= MOST_SIGNS:
            raise BadRow(-1)
        self.moment = moment_behind(self.mind, self.moment, sign)
        return self.moment.marks

    def look_anew(self, look):
        """The look is set anew; returns the marks of the knowledge then."""
        check_row(look)
        self.moment = first_moment(self.mind)
        for sign in look:
            self.moment = moment_behind(self.mind, self.moment, sign)
        return self.moment.marks

    def says(self, patience=0):
        """The mark that the mind says at this moment with a patience, or None."""
        check_patience(patience)
        return only_mark(self.moment.marks) if self.moment.run > patience else None

    def copy(self):
        """Another watch of the same mind with the same look."""
        twin = Watch(self.mind)
        twin.moment = self.moment
        return twin


class Kept:
    """A moment of a watch that is kept while a block lasts, and what was kept before."""

    def __init__(self, moment, elder):
        self.moment = moment
        self.elder = elder


class Ahead:
    """A context: behind its block the watch is what it was when the block was entered."""

    def __init__(self, watch):
        self.watch = watch
        self.kept = None

    def __enter__(self):
        self.kept = Kept(self.watch.moment, self.kept)
        return self.watch

    def __exit__(self, kind, value, trace):
        watch = self.watch
        watch.moment = self.kept.moment
        self.kept = self.kept.elder


def rehearsed(watch, deeds):
    """What is told for some deeds that are done on a watch, one after the other."""
    told = []
    for deed in deeds:
        told.append(done(watch, deed))
    return tuple(told)


def done(watch, deed):
    """What is told for a deed that is done on a watch."""
    if deed[0] == "see":
        return watch.see(deed[1])
    if deed[0] == "anew":
        return watch.look_anew(deed[1])
    with Ahead(watch) as held:
        told = rehearsed(held, deed[1])
    return told


def check_further(watch, look):
    """Refuses what is no look by which a watch can go on."""
    if not isinstance(look, str) or len(watch.seen) + len(look) > MOST_SIGNS:
        raise BadRow(-1)
    check_row(look)


def marks_ahead(watch, look):
    """The marks of the knowledge of a watch behind a look by which it goes on; it is then as it was."""
    with Ahead(watch) as held:
        for sign in look:
            held.see(sign)
        marks = held.moment.marks
    return marks


def foreseen(watch, *looks):
    """The marks behind each of some looks by which a watch could go on from this moment."""
    for look in looks:
        check_further(watch, look)
    return tuple([marks_ahead(watch, look) for look in looks])
