"""Folding: the shortest text of a round."""

from falseglim.signs import check_round


def item_texts(piece, texts):
    """The texts of a piece of a round as one item; `texts` are the best ones of all shorter pieces."""
    if len(piece) == 1:
        return [piece]
    found = []
    for times in range(2, len(piece) + 1):
        unit = piece[:len(piece) // times]
        if unit * times == piece:
            found.append(str(times) + (unit if len(unit) == 1 else "(" + texts[unit] + ")"))
    return found


def best_text(piece, texts):
    """The shortest text of a piece; of several, the first one as a string."""
    found = item_texts(piece, texts)
    for at in range(1, len(piece)):
        found.append(texts[piece[:at]] + texts[piece[at:]])
    return min(found, key=lambda text: (len(text), text))


def fold_round(row):
    """The folded text of a round."""
    check_round(row)
    texts = {}
    # The best text of a piece is made of the best ones of shorter pieces. None of them has an `@`: the dark beats
    # that it puts behind are written as shortly with a number and a dot, and digits and dots go ahead of it as
    # strings. Brackets never get too deep: each one takes at most half of its piece, which has 24 beats or less.
    for size in range(1, len(row) + 1):
        for start in range(len(row) - size + 1):
            piece = row[start:start + size]
            if piece not in texts:
                texts[piece] = best_text(piece, texts)
    return texts[row]
