"""Lines of orders that are needless."""

from falseglim.orders import Orders
from falseglim.readerpairs import ReaderPair
from falseglim.readers import reader_of


def skipped(orders, number):
    """The orders with a skip in the place of the line with a number."""
    lines = orders.lines
    return Orders(lines[:number] + (("skip",),) + lines[number + 1:])


def numbers_to_ask(orders):
    """The numbers of the lines that are no skips."""
    return [number for number, line in enumerate(orders.lines) if line[0] != "skip"]


def needless(orders):
    """The numbers of the needless lines, ascending."""
    reader = reader_of(orders)
    return tuple([number for number in numbers_to_ask(orders)
                  if bool(ReaderPair(reader, reader_of(skipped(orders, number))))])


def lean_orders(orders):
    """The orders with skips for the lines that are needless in what they have become, from the first to the last."""
    lean = Orders(orders.lines)
    reader = reader_of(lean)
    for number in numbers_to_ask(orders):
        other = skipped(lean, number)
        other_reader = reader_of(other)
        if bool(ReaderPair(reader, other_reader)):
            lean, reader = other, other_reader
    return lean
