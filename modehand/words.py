"""Words and brackets of a text (points 8 and 10 of the document)."""

WORD_SIGNS = "abcdefghijklmnopqrstuvwxyzABCDEFGHIJKLMNOPQRSTUVWXYZ0123456789"

# An opening bracket and the closing one of its kind have the same number here.
OPENING = ("(", "[", "{")
CLOSING = (")", "]", "}")


# Asked also right ahead of a text and behind it: no sign stands there.
def has_word_sign(text, place):
    return 0 <= place < len(text) and text[place] in WORD_SIGNS


def begins(text, place):
    return has_word_sign(text, place) and not has_word_sign(text, place - 1)


def ends(text, place):
    return has_word_sign(text, place - 1) and not has_word_sign(text, place)


def word_at(text, place):
    if not has_word_sign(text, place):
        return None
    begin = place
    while not begins(text, begin):
        begin = begin - 1
    end = place + 1
    while not ends(text, end):
        end = end + 1
    return (begin, end)


def has_opening(text, place):
    return 0 <= place < len(text) and text[place] in OPENING


def has_closing(text, place):
    return 0 <= place < len(text) and text[place] in CLOSING


def closing_of(opening):
    return CLOSING[OPENING.index(opening)]


def opening_of(closing):
    return OPENING[CLOSING.index(closing)]


def partner(text, place):
    if has_opening(text, place):
        return first_even(text, place, 1, closing_of(text[place]))
    # Being the partner's partner is the same as this walk the other way.
    if has_closing(text, place):
        return first_even(text, place, -1, opening_of(text[place]))
    return None


# Other kinds of brackets don't count, so those that cross are no hindrance.
def first_even(text, place, step, wanted):
    own = text[place]
    more = 0
    at = place + step
    while 0 <= at < len(text):
        if text[at] == wanted and more == 0:
            return at
        if text[at] == wanted:
            more = more - 1
        if text[at] == own:
            more = more + 1
        at = at + step
    return None
