"""Stretches: of moves, of things, and of what is seen (points 13 to 15 of the document)."""

from modehand.moves import by_rows, gone
from modehand.rows import begin_of, behind_of, end_of, is_row, row_of
from modehand.words import CLOSING, OPENING, closing_of, opening_of, partner, word_at


def between(one, other, kind):
    return (min(one, other), max(one, other), kind)


def rows_between(text, one, other):
    first = row_of(text, min(one, other))
    last = row_of(text, max(one, other))
    return (begin_of(text, first), behind_of(text, last), "rows")


def move_stretch(keys, text, place, count=None, marks=None):
    led = gone(keys, text, place, count, marks)
    if led is None:
        return None
    if by_rows(keys):
        return rows_between(text, place, led)
    return between(place, led, "signs")


def word(text, place):
    found = word_at(text, place)
    return None if found is None else (found[0], found[1], "signs")


def spaced_word(text, place):
    found = word_at(text, place)
    if found is None:
        return None
    high = found[1]
    while high < len(text) and text[high] == " ":
        high = high + 1
    return (found[0], high, "signs")


def signs_of_row(text, place):
    row = row_of(text, place)
    return (begin_of(text, row), end_of(text, row), "signs")


def rows_from(text, place, many):
    first = row_of(text, place)
    last = first + many - 1
    if not is_row(text, last):
        return None
    return (begin_of(text, first), behind_of(text, last), "rows")


# What a pair of signs at these places holds, without them and with them.
def inside(pair):
    return None if pair is None else (pair[0] + 1, pair[1], "signs")


def outside(pair):
    return None if pair is None else (pair[0], pair[1] + 1, "signs")


def still_open(text, place, opening):
    closing = closing_of(opening)
    found = []
    for at in range(place):
        if text[at] == opening:
            found.append(at)
        elif text[at] == closing and found:
            found.pop()
    return found


def brackets_round(text, place, opening, many):
    found = still_open(text, place, opening)
    if not 1 <= many <= len(found):
        return None
    low = found[len(found) - many]
    # Where this one has no partner, none farther out has one: it would have to close this one first.
    high = partner(text, low)
    return None if high is None else (low, high)


def quotes_round(text, place):
    row = row_of(text, place)
    quotes = [at for at in range(begin_of(text, row), end_of(text, row)) if text[at] == "\""]
    for number in range(0, len(quotes) - 1, 2):
        if quotes[number] < place <= quotes[number + 1]:
            return (quotes[number], quotes[number + 1])
    return None


def inside_quotes(text, place):
    return inside(quotes_round(text, place))


def outside_quotes(text, place):
    return outside(quotes_round(text, place))


def seen_stretch(text, place, seen):
    if seen is None:
        return None
    if seen[1] == "r":
        return rows_between(text, seen[0], place)
    return between(seen[0], place, "block" if seen[1] == "b" else "signs")


COUNT_PASSED_OVER = {
    "c": word,
    "a": spaced_word,
    "i": signs_of_row,
    "'": inside_quotes,
    "\"": outside_quotes,
}


def stretch(key, text, place, count=None, seen=None):
    many = 1 if count is None else count
    if key == "s":
        return seen_stretch(text, place, seen)
    if key == "r":
        return rows_from(text, place, many)
    if key in OPENING:
        return inside(brackets_round(text, place, key, many))
    if key in CLOSING:
        return outside(brackets_round(text, place, opening_of(key), many))
    if key in COUNT_PASSED_OVER:
        return COUNT_PASSED_OVER[key](text, place)
    return None
