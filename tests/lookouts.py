"""A look-out by the words of the document, and orders made by chance, for several tests."""

import random

from falseglim.orders import Orders

EXAMPLE = (("wait", ".", 3), ("count", "grw", ".", 3), ("more", 3, 5), ("more", 2, 6), ("go", 0), ("name", "anna"),
           ("name", "bell"))


def told_state(lines, look):
    """How a look-out is behind a look, line by line: `("said", mark, beats)`, `("ended",)`, or its situation."""
    beat, line, count, last, passed = 0, 0, 0, None, set()
    while line < len(lines) and line not in passed:
        word, told = lines[line][0], lines[line][1:]
        passed.add(line)
        if word == "name":
            return ("said", told[0], beat)
        line = line + 1
        if word in ("wait", "count", "pass"):
            if word == "count":
                count = 0
            run, before, looked = 0, False, 0
            while (looked < told[0] if word == "pass" else run < told[-1]):
                if beat == len(look):
                    return ("at", line - 1, told[0] - looked if word == "pass" else run, before, count, last)
                last, beat, looked = look[beat], beat + 1, looked + 1
                if word == "pass":
                    continue
                if word == "count":
                    if last in told[0] and not before:
                        count = min(9, count + 1)
                    before = last in told[0]
                run = run + 1 if last in told[-2] else 0
            passed = set()
        elif word == "go" or (word == "more" and count >= told[0]) or (word == "last" and last and last in told[0]):
            line = told[-1]
    return ("ended",)


def told_said(lines, look):
    """What a look-out says behind a look; None also if it ends or goes round without a word."""
    state = told_state(lines, look)
    return state[1:] if state[0] == "said" else None


def told_rows(lines):
    """The states of the reader of orders: the situations are found by going through looks, the least ones first."""
    def key(look):
        return told_state(lines, look)[:2] if told_said(lines, look) else told_state(lines, look)

    looks = {key(""): ""}
    waiting = [""]
    for look in waiting:
        for sign in ".grw":
            if key(look + sign) not in looks:
                looks[key(look + sign)] = look + sign
                waiting.append(look + sign)
    numbers = {state: number for number, state in enumerate(looks)}
    rows = []
    for state, look in looks.items():
        word = state[1] if state[0] == "said" else ""
        rows.append((word, tuple(numbers[key(look + sign)] for sign in ".grw")))
    return tuple(rows)


def some_orders(seed, many=None):
    """Orders made by chance."""
    chance = random.Random(seed)
    many = many or chance.randint(2, 7)

    def signs():
        return "".join(sorted(chance.sample(".grw", chance.choice((1, 1, 2, 3)))))

    def line():
        return chance.randrange(many)

    lines = []
    for _ in range(many):
        lines.append(chance.choice((
            ("wait", signs(), chance.choice((1, 1, 2, 3))), ("count", signs(), signs(), chance.choice((1, 2, 3))),
            ("pass", chance.choice((1, 2, 3))), ("more", chance.choice((1, 2, 3)), line()), ("last", signs(), line()),
            ("go", line()), ("name", chance.choice("abc")), ("name", chance.choice("abc")), ("skip",))))
    return Orders(lines)
