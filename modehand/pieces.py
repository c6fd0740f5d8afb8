"""The pieces of a stretch (point 16 of the document)."""

from modehand.rows import column_of, place_of, row_of


def pieces(text, one):
    if one[2] == "block":
        return block_pieces(text, one[0], one[1])
    return [(one[0], one[1])]


# The lesser place may well be in the greater column.
def block_pieces(text, low, high):
    first = min(column_of(text, low), column_of(text, high))
    last = max(column_of(text, low), column_of(text, high))
    found = []
    for row in range(row_of(text, low), row_of(text, high) + 1):
        found.append((place_of(text, row, first), place_of(text, row, last)))
    return found
