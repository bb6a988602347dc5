"""The journal of an office: its deeds, written down."""

from falseglim.errors import BadLine, GlimError, Torn
from falseglim.foldround import fold_round
from falseglim.forms import is_tuple
from falseglim.office import COAST, ORDERS, ROUND, STRIKE, WEATHER, Office, checked_places
from falseglim.orders import ORDER_WORDS, checked_orders
from falseglim.weathers import WEATHER_WORDS, checked_weathers
from falseglim.wordlines import read_words, words_of, write_tuples

END = "end"
# What stands behind the first word of the first line of a deed.
DEED_WORDS = {
    "round": ("name", "round"),
    "weather": ("name",),
    "orders": ("name",),
    "coast": ("name",),
    "strike": ("name",),
}
LIGHT_WORDS = {"light": ("name", "name")}


def lines_of_deed(deed):
    """The lines of a deed."""
    kind, name, *things = deed
    if kind == STRIKE:
        return (f"{STRIKE} {name}",)
    thing = things[0]
    if kind == ROUND:
        return (f"{ROUND} {name} {fold_round(thing)}",)
    parts = [("light", light, row) for light, row in thing] if kind == COAST else thing
    return (f"{kind} {name}",) + write_tuples(parts) + (END,)


def write_journal(office):
    """The lines of all deeds of an office."""
    lines = []
    for deed in office.told_deeds():
        lines.extend(lines_of_deed(deed))
    return tuple(lines)


def read_parts(lines, line, kinds):
    """What the lines of a thing tell from a line on, and the number of the line behind their end.

    `kinds` is a dict from the words with which these lines can begin to what stands behind them.
    """
    parts = []
    words = words_of(lines, line)
    while words[0] != END:
        if words[0] not in kinds:
            raise BadLine(line, 0)
        parts.append(tuple([words[0]] + read_words(words, line, kinds[words[0]])))
        line = line + 1
        words = words_of(lines, line)
    read_words(words, line, ())
    return tuple(parts), line + 1


def take_deed(office, lines, line):
    """Reads the deed that begins with a line and does it; the number of the line behind it."""
    words = words_of(lines, line)
    if words[0] not in DEED_WORDS:
        raise BadLine(line, 0)
    kind = words[0]
    name, *told = read_words(words, line, DEED_WORDS[kind])
    behind = line + 1
    if kind == STRIKE:
        office.strike(name)
    elif kind == ROUND:
        office.keep_round(name, told[0])
    elif kind == WEATHER:
        parts, behind = read_parts(lines, behind, dict(WEATHER_WORDS))
        # The thing is made ahead of being added: what is wrong with it goes ahead of what is wrong with its name.
        office.keep_weather(name, checked_weathers(parts))
    elif kind == ORDERS:
        parts, behind = read_parts(lines, behind, dict(ORDER_WORDS))
        office.keep_orders(name, checked_orders(parts))
    else:
        parts, behind = read_parts(lines, behind, dict(LIGHT_WORDS))
        office.keep_coast(name, checked_places([(light, row) for _, light, row in parts]))
    return behind


def read_journal(lines):
    """The office whose journal lines tell."""
    if not is_tuple(lines):
        raise Torn(0) from BadLine(0, 0)
    office = Office()
    line = 0
    while line < len(lines):
        try:
            line = take_deed(office, lines, line)
        except GlimError as error:
            raise Torn(line) from error
    return office


def taken_up(lines):
    """The office that the longest good beginning of whole deeds tells, and the number of lines taken."""
    office = Office()
    line = 0
    is_whole = is_tuple(lines)
    while is_whole and line < len(lines):
        try:
            line = take_deed(office, lines, line)
        except GlimError:
            is_whole = False
    return office, line
