"""What is typed in, put over and laid from a shelf (points 20 to 22 of the document)."""

from modehand.rows import begin_of, column_of, end_of, place_of, row_count, row_of
from modehand.splices import changing, too_long


def bounded(text, splices, place):
    kept = changing(splices)
    return None if too_long(text, kept) else (kept, place)


def typed_in(text, place, typed, count=1):
    put = typed * count
    return bounded(text, [(place, "", put)], place + len(put))


def put_over(text, place, sign, count=1):
    if place + count > end_of(text, row_of(text, place)):
        return None
    return bounded(text, [(place, text[place:place + count], sign * count)], place)


def laid_rows(text, place, signs, count):
    begin = begin_of(text, row_of(text, place))
    return bounded(text, [(begin, "", signs * count)], begin)


# Without a sign to put, a row that is shorter is still filled up to the column.
def laid_in_row(text, row, column, put):
    at = place_of(text, row, column)
    lacking = column - column_of(text, at)
    return (at, "", " " * lacking + put)


def laid_block(text, place, texts, count):
    row = row_of(text, place)
    column = column_of(text, place)
    width = max([len(one) for one in texts])
    feeds = "\n" * (row + len(texts) - row_count(text))
    with_rows = text + feeds
    splices = [(len(text), "", feeds)]
    shift = 0
    for number, one in enumerate(texts):
        splice = laid_in_row(with_rows, row + number, column, one.ljust(width) * count)
        splices.append((splice[0] + shift, splice[1], splice[2]))
        shift = shift + len(splice[2])
    return bounded(text, splices, place)


# Keys that were kept may have a ~, which is no sign of a text.
def laid(text, place, held, count=1):
    texts = held[1]
    if any(["~" in one for one in texts]):
        return None
    if held[0] == "block":
        return laid_block(text, place, texts, count)
    if held[0] == "rows":
        return laid_rows(text, place, texts[0], count)
    return typed_in(text, place, texts[0], count)
