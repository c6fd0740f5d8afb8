"""The verbs, and what a stretch gives to a shelf (points 17 to 20 of the document)."""

from modehand.pieces import pieces
from modehand.rows import begin_of, end_of, row_count, row_of
from modehand.splices import changing, spliced, too_long


def shelved(text, one):
    texts = [text[low:high] for low, high in pieces(text, one)]
    if one[2] == "rows" and not texts[0].endswith("\n"):
        texts = [texts[0] + "\n"]
    return (one[2], texts)


# By rows a stretch ends behind a line feed, so in the row behind its last one, where it has a sign at all.
def rows_in(text, one):
    low = one[0]
    high = one[1]
    if one[2] == "rows" and high > low:
        return (row_of(text, low), row_of(text, high - 1))
    return (row_of(text, low), row_of(text, high))


def taken_out(signs, typed):
    return ""


# What is copied is put back as it is, and so there is no splice.
def left_as_is(signs, typed):
    return signs


def exchanged(signs, typed):
    return typed


def great(signs, typed):
    return signs.upper()


def small(signs, typed):
    return signs.lower()


PUTTING = {
    "C": taken_out,
    "Y": left_as_is,
    "X": exchanged,
    "G": great,
    "S": small,
}
SHELVING = ("C", "Y", "X")


def signs_of_piece(key, text, one, pair):
    signs = text[pair[0]:pair[1]]
    if key == "X" and one[2] == "rows" and signs.endswith("\n"):
        return signs[:-1]
    return signs


# From the last piece to the first, so that no splice shifts a piece that is still to come.
def done_to_pieces(key, text, one, typed):
    found = pieces(text, one)
    splices = []
    for pair in reversed(found):
        signs = signs_of_piece(key, text, one, pair)
        splices.append((pair[0], signs, PUTTING[key](signs, typed)))
    place = found[0][0]
    if key == "X":
        place = place + len(typed)
    return (changing(splices), place, shelved(text, one) if key in SHELVING else None)


def deeper(text, row):
    begin = begin_of(text, row)
    return (begin, "", "  " if end_of(text, row) > begin else "")


def flatter(text, row):
    begin = begin_of(text, row)
    two = text[begin:min(begin + 2, end_of(text, row))]
    blanks = len(two) - len(two.lstrip(" "))
    return (begin, two[:blanks], "")


INDENTING = {
    "D": deeper,
    "F": flatter,
}


def indented(key, text, one):
    rows = rows_in(text, one)
    splices = [INDENTING[key](text, row) for row in range(rows[1], rows[0] - 1, -1)]
    return (changing(splices), begin_of(text, rows[0]), None)


def joining(text, row):
    at = end_of(text, row)
    high = at + 1
    while high < len(text) and text[high] == " ":
        high = high + 1
    return (at, text[at:high], " ")


# A row of blanks alone, joined with the row behind it, has more blanks by then: so each splice asks the text anew.
def joined(text, one):
    rows = rows_in(text, one)
    first = rows[0]
    last = max(rows[1], first + 1)
    if last >= row_count(text):
        return None
    place = end_of(text, first)
    splices = []
    for row in range(last - 1, first - 1, -1):
        splice = joining(text, row)
        splices.append(splice)
        text = spliced(text, splice)
    return (splices, place, None)


def done_unbounded(key, text, one, typed):
    if key in PUTTING:
        return done_to_pieces(key, text, one, typed)
    if key in INDENTING:
        return indented(key, text, one)
    if key == "J":
        return joined(text, one)
    return None


def done(key, text, one, typed=""):
    told = done_unbounded(key, text, one, typed)
    if told is None or too_long(text, told[0]):
        return None
    return told
