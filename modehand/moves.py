"""The fifteen moves, with their counts (points 9 to 12 of the document)."""

from modehand.rows import begin_of, column_of, end_of, is_place, is_row, place_of, row_of
from modehand.words import begins, ends, has_closing, has_opening, partner


def row_begin(text, place):
    return begin_of(text, row_of(text, place))


def row_end(text, place):
    return end_of(text, row_of(text, place))


def text_end(text, place):
    return len(text)


def left(text, place):
    return place - 1 if place > row_begin(text, place) else None


def right(text, place):
    return place + 1 if place < row_end(text, place) else None


def row_behind(text, place):
    return same_column(text, place, row_of(text, place) + 1)


def row_ahead(text, place):
    return same_column(text, place, row_of(text, place) - 1)


def same_column(text, place, row):
    if not is_row(text, row):
        return None
    return place_of(text, row, column_of(text, place))


def begin_behind(text, place):
    for at in range(place + 1, len(text)):
        if begins(text, at):
            return at
    return None


def begin_ahead(text, place):
    for at in range(place - 1, -1, -1):
        if begins(text, at):
            return at
    return None


# A word may end at the text's end, too, where no sign stands.
def end_behind(text, place):
    for at in range(place + 1, len(text) + 1):
        if ends(text, at):
            return at
    return None


# An opening bracket at the hand goes before a closing one ahead of it, even where it has no partner.
def to_partner(text, place):
    if has_opening(text, place):
        closing = partner(text, place)
        return None if closing is None else closing + 1
    if has_closing(text, place - 1):
        return partner(text, place - 1)
    return None


# A row is walked without its line feed, so that one is never found.
def sign_behind(text, place, sign):
    for at in range(place + 1, row_end(text, place)):
        if text[at] == sign:
            return at
    return None


def sign_ahead(text, place, sign):
    for at in range(place - 1, row_begin(text, place) - 1, -1):
        if text[at] == sign:
            return at
    return None


ALONE = {
    "h": left,
    "l": right,
    "j": row_behind,
    "k": row_ahead,
    "w": begin_behind,
    "v": begin_ahead,
    "o": end_behind,
    "p": to_partner,
}
WITH_SIGN = {
    "f": sign_behind,
    "t": sign_ahead,
}
COUNT_PASSED_OVER = {
    "b": row_begin,
    "e": row_end,
    "z": text_end,
}
BY_ROWS = ("j", "k", "g")


def numbered_row(text, count):
    if count is None:
        return 0
    return begin_of(text, count - 1) if is_row(text, count - 1) else None


# A mark beyond the text is no place to be led to.
def marked(text, letter, marks):
    if marks is None:
        return None
    place = marks.get(letter)
    return place if is_place(text, place) else None


def gone_once(keys, text, place):
    if keys in ALONE:
        return ALONE[keys](text, place)
    if len(keys) == 2 and keys[0] in WITH_SIGN:
        return WITH_SIGN[keys[0]](text, place, keys[1])
    return None


def gone_often(keys, text, place, times):
    for step in range(times):
        place = gone_once(keys, text, place)
        if place is None:
            return None
    return place


def gone(keys, text, place, count=None, marks=None):
    if keys == "g":
        return numbered_row(text, count)
    if keys in COUNT_PASSED_OVER:
        return COUNT_PASSED_OVER[keys](text, place)
    if len(keys) == 2 and keys[0] == "m":
        return marked(text, keys[1], marks)
    return gone_often(keys, text, place, 1 if count is None else count)


def by_rows(keys):
    return keys in BY_ROWS
