"""Places, rows and columns of a text (points 2 and 3 of the document)."""

from modehand.errors import NoPlace, NoRow

MOST_SIGNS = 600


# Python counts True and False among the ints; the document does not.
def is_whole(value):
    return isinstance(value, int) and not isinstance(value, bool)


def is_place(text, place):
    return is_whole(place) and 0 <= place <= len(text)


def is_row(text, row):
    return is_whole(row) and 0 <= row < row_count(text)


# The refusals don't show the number: Python won't write one of many thousand figures.
def check_place(text, place):
    if not is_place(text, place):
        raise NoPlace("no place of the text")


def check_row(text, row):
    if not is_row(text, row):
        raise NoRow("no row of the text")


def row_count(text):
    return text.count("\n") + 1


def row_of(text, place):
    check_place(text, place)
    return text[:place].count("\n")


def column_of(text, place):
    check_place(text, place)
    # Where no line feed stands ahead, rfind tells -1, and the row begins at 0.
    return place - (text[:place].rfind("\n") + 1)


def begin_of(text, row):
    check_row(text, row)
    # Split at so many line feeds, what is left begins where the row does.
    return len(text) - len(text.split("\n", row)[row])


def end_of(text, row):
    end = text.find("\n", begin_of(text, row))
    # Where no line feed stands behind, find tells -1, and the row ends with the text.
    return len(text) if end < 0 else end


# The last row has no line feed to stand behind.
def behind_of(text, row):
    return min(end_of(text, row) + 1, len(text))


def place_of(text, row, column):
    return min(begin_of(text, row) + column, end_of(text, row))
