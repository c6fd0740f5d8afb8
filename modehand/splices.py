"""Splices: tuples (at, out, put) that lead from text to text (points 5 to 7)."""

from modehand.errors import NoFit
from modehand.rows import is_place


# The place is asked first: Python's slices take places below 0 and beyond the end, too.
def fits(text, splice):
    at = splice[0]
    out = splice[1]
    return is_place(text, at) and text[at:at + len(out)] == out


def spliced(text, splice):
    if not fits(text, splice):
        raise NoFit("the splice does not fit the text")
    at = splice[0]
    out = splice[1]
    put = splice[2]
    return text[:at] + put + text[at + len(out):]


def turned(splice):
    return (splice[0], splice[2], splice[1])


def shifted(place, splice):
    at = splice[0]
    out = splice[1]
    put = splice[2]
    if place < at:
        return place
    if place < at + len(out):
        return at
    return place + len(put) - len(out)


def all_spliced(text, splices):
    for splice in splices:
        text = spliced(text, splice)
    return text


def all_shifted(place, splices):
    for splice in splices:
        place = shifted(place, splice)
    return place


def way_back(splices):
    return [turned(splice) for splice in reversed(splices)]
