"""Splices: tuples (at, out, put) that lead from text to text (points 5 to 7, 18 and 20)."""

from modehand.errors import NoFit
from modehand.rows import MOST_SIGNS, is_place


# The place is asked first: Python's slices take places below 0 and beyond the end, too.
def fits(text, splice):
    at = splice[0]
    out = splice[1]
    return is_place(text, at) and text[at:at + len(out)] == out


def spliced(text, splice):
    if not fits(text, splice):
        raise NoFit("the splice does not fit the text")
    at = splice[0]
    out = splice[1]
    put = splice[2]
    return text[:at] + put + text[at + len(out):]


def turned(splice):
    return (splice[0], splice[2], splice[1])


def shifted(place, splice):
    at = splice[0]
    out = splice[1]
    put = splice[2]
    if place < at:
        return place
    if place < at + len(out):
        return at
    return place + len(put) - len(out)


def all_spliced(text, splices):
    for splice in splices:
        text = spliced(text, splice)
    return text


def all_shifted(place, splices):
    for splice in splices:
        place = shifted(place, splice)
    return place


def way_back(splices):
    return [turned(splice) for splice in reversed(splices)]


def changing(splices):
    return [splice for splice in splices if splice[1] != splice[2]]


# On the way the text may be longer: only what it comes to behind all of them counts.
def too_long(text, splices):
    return len(text) + sum([len(splice[2]) - len(splice[1]) for splice in splices]) > MOST_SIGNS
