"""Lighting a coast anew: rounds any two of which are apart."""

from falseglim.bears import check_delay, is_told_back
from falseglim.cases import CaseTrees, is_right_tree
from falseglim.errors import BadMany, BadMost, BadSigns, TooMany
from falseglim.forms import is_from
from falseglim.makers import either, ring
from falseglim.rounds import check_rounds, rhythm
from falseglim.signs import DARK, are_signs

MOST_LIGHTS = 4
LEAST_SIGNS = 2
MOST_PERIOD = 6
MOST_CANDIDATES = 40


def check_many(many):
    """Refuses what is no number of lights."""
    if not is_from(many, 1, MOST_LIGHTS):
        raise BadMany(many)


def check_signs_and_most(signs, most):
    """Refuses what are no signs for rounds, and what is no greatest period."""
    if not are_signs(signs) or len(signs) < LEAST_SIGNS or signs[0] != DARK:
        raise BadSigns(signs)
    if not is_from(most, 1, MOST_PERIOD):
        raise BadMost(most)


def all_candidates(signs, most):
    """The rounds of some signs and at most so many beats that are lit and are their own rhythms, ascending."""
    rows = [""]
    found = []
    for _ in range(most):
        rows = [row + sign for row in rows for sign in signs]
        found.extend([row for row in rows if row != DARK and rhythm(row) == row])
        if len(found) > MOST_CANDIDATES:
            raise TooMany("round")
    return tuple(found)


def candidates(signs, most):
    """The candidates for a coast that is lit anew."""
    check_signs_and_most(signs, most)
    return all_candidates(signs, most)


def are_apart(first, second, eye, delay):
    """Whether two rounds are apart for an eye and a delay."""
    return is_told_back(either(ring(first, "a"), ring(second, "b")), eye, delay)


def apart(first, second, eye, delay):
    """Whether two things are rounds that are apart for an eye and a delay."""
    check_rounds(first, second)
    check_delay(delay)
    return are_apart(first, second, eye, delay)


def all_apart(rows, eye, delay):
    """For the number of each of some rounds a dict whose keys are the numbers of those that are apart from it."""
    found = [{} for _ in rows]
    for number in range(len(rows)):
        for other in range(number + 1, len(rows)):
            if are_apart(rows[number], rows[other], eye, delay):
                found[number][other] = True
                found[other][number] = True
    return found


def all_choices(many, numbers, others):
    """All ascending tuples of so many numbers any two of which are apart; `others` tells which are."""
    found = [((), numbers)]
    for _ in range(many):
        found = [(choice + (number,), [other for other in left if other > number and other in others[number]])
                 for choice, left in found for number in left]
    return [choice for choice, _ in found]


def up_to(rows, period):
    """The numbers of those of some rounds that have at most so many beats."""
    return [number for number, row in enumerate(rows) if len(row) <= period]


def lit_signs(rows):
    """The number of lit signs in some rounds."""
    return sum([len(row) - row.count(DARK) for row in rows])


def best_choice(many, rows, most, others):
    """The numbers of the best choice and its period; None and None if there is no choice."""
    for period in range(1, most + 1):
        # No choice has a lesser period: so all of these have this one.
        choices = all_choices(many, up_to(rows, period), others)
        if choices:
            _, best = min([(lit_signs([rows[number] for number in choice]), choice) for choice in choices])
            return best, period
    return None, None


class Lighting:
    """The best choice of rounds for a number of lights, and a tree of cases that none has a lesser period."""

    def __init__(self, many, signs, most, eye, delay):
        check_many(many)
        check_signs_and_most(signs, most)
        check_delay(delay)
        self.many = many
        self.signs = signs
        self.most = most
        self.eye = eye
        self.delay = delay
        rows = all_candidates(signs, most)
        others = all_apart(rows, eye, delay)
        best, self.period = best_choice(many, rows, most, others)
        self.choice = None if best is None else tuple([rows[number] for number in best])
        last = most if self.period is None else self.period - 1
        self.tree = CaseTrees(many, others).grown(0, up_to(rows, last)) if last > 0 else None

    def __bool__(self):
        return self.choice is not None


def judge_cases(many, signs, most, eye, delay, tree):
    """Whether a tree of cases shows that there is no choice."""
    check_many(many)
    check_signs_and_most(signs, most)
    check_delay(delay)
    rows = all_candidates(signs, most)
    return is_right_tree(tree, many, all_apart(rows, eye, delay), 0, list(range(len(rows))))
