"""How a table is judged, row by row.

A row is a pair of a thing and what the table tells of it (its rank or its age; None where nothing is told), or None if
what was passed as a row does not have the form told.
"""


def first_told(rows):
    """A dict from each thing that has a row to what the first of its rows tells of it."""
    told = {}
    for row in rows:
        if row is not None and row[0] not in told:
            told[row[0]] = row[1]
    return told


def first_wrong(firsts, told, rows, is_right):
    """-1 if one of the first things has no row, otherwise the number of the first row that is not right, or None."""
    if not all([thing in told for thing in firsts]):
        return -1
    for number, row in enumerate(rows):
        if row is None or not is_right(row[0], row[1]):
            return number
    return None
