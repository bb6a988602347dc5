"""The lines of worlds and of eyes."""

from falseglim.errors import BadLine
from falseglim.eyes import Eye
from falseglim.wordlines import check_lines, read_words, word_of_mark, words_of
from falseglim.worlds import World

STATE_WORDS = ("sign", "mark")
ENTRY_WORDS = ("eye state", "sign", "sign", "eye state")


def write_world(world):
    """The lines of a world."""
    lines = []
    for sign, nexts, mark in world:
        lines.append(" ".join(["state", sign, word_of_mark(mark)] + [str(later) for later in nexts]))
    lines.append(" ".join(["begin"] + [str(state) for state in world.begins]))
    return tuple(lines)


def read_world(lines):
    """The world that lines tell."""
    check_lines(lines)
    shows, goes, marks = [], [], []
    words = words_of(lines, 0)
    while words[0] == "state":
        sign, mark, *nexts = read_words(words, len(shows), STATE_WORDS, "world state")
        shows.append(sign)
        marks.append(mark)
        goes.append(tuple(nexts))
        words = words_of(lines, len(shows))
    line = len(shows)
    if words[0] != "begin":
        raise BadLine(line, 0)
    begins = read_words(words, line, (), "world state")
    if len(lines) > line + 1:
        raise BadLine(line + 1, 0)
    return World("".join(shows), tuple(goes), tuple(begins), tuple(marks))


def write_eye(eye):
    """The lines of an eye."""
    return tuple([f"entry {state} {shown} {seen} {later}" for state, shown, seen, later in eye])


def read_eye(lines):
    """The eye that lines tell."""
    check_lines(lines)
    entries = []
    for line in range(len(lines)):
        words = words_of(lines, line)
        if words[0] != "entry":
            raise BadLine(line, 0)
        entries.append(tuple(read_words(words, line, ENTRY_WORDS)))
    return Eye(tuple(entries))
