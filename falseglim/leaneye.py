"""Lean eyes: states that cannot be told apart become one."""

from falseglim.eyes import Eye
from falseglim.joining import entries_by_state
from falseglim.worlds import come_to


def parted(entries, numbers):
    """The classes of states that differ in their classes so far, or in what they let and in the classes behind it.

    `numbers` tells the class of each state so far; so does what is returned, the classes in the order of their
    least states.
    """
    found = {}
    later = {}
    for state in sorted(numbers):
        lets = sorted({(shown, seen, numbers[behind]) for shown, seen, behind in entries[state]})
        told = (numbers[state], tuple(lets))
        if told not in found:
            found[told] = len(found)
        later[state] = found[told]
    return later


def class_numbers(eye):
    """For each state of an eye that is come to, the number of its class."""
    entries = entries_by_state(eye.entries)
    nexts = {state: [later for _, _, later in entries[state]] for state in eye.states}
    numbers = {state: 0 for state in come_to([0], nexts)}
    finer = parted(entries, numbers)
    while finer != numbers:
        numbers = finer
        finer = parted(entries, numbers)
    return numbers


def classes(eye):
    """The classes of the states of an eye that are come to, in the order of their least states."""
    found = {}
    numbers = class_numbers(eye)
    for state in sorted(numbers):
        found.setdefault(numbers[state], []).append(state)
    return tuple([tuple(states) for states in found.values()])


def lean_eye(eye):
    """The eye whose states are the classes of an eye."""
    numbers = class_numbers(eye)
    return Eye(sorted({(numbers[state], shown, seen, numbers[later])
                       for state, shown, seen, later in eye if state in numbers}))
