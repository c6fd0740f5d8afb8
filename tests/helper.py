"""What several files of tests share: texts to ask about, and what a refusal must be."""

import itertools
import random
import re

from modehand import errors

REFUSALS = (
    errors.NoPlace, errors.NoRow, errors.NoFit, errors.NoState, errors.NoPhrase, errors.NoPattern,
    errors.NoLine, errors.TooLong, errors.NoWords, errors.NoDeed, errors.NoName,
)

SIGNS = "".join(chr(code) for code in range(ord(" "), ord("}") + 1) if chr(code) != "%")

# More than Python would write in figures: a refusal must not fail at showing it.
VERY_MUCH = (1000, 10 ** 9, 10 ** 30, 10 ** 5000)


def small_texts(most, signs="a\n"):
    """Every text of these signs with at most so many of them."""
    for length in range(most + 1):
        for row in itertools.product(signs, repeat=length):
            yield "".join(row)


def long_texts():
    """Texts of all signs, of up to 600 signs, with rows of many lengths."""
    signs = SIGNS * 7
    yield signs[:599]
    yield signs[:600]
    yield "\n" * 600
    yield "\n" + signs[:598] + "\n"
    yield "x" * 300 + "\n" + "y" * 299
    rows = [signs[number:number + number * 7 % 23] for number in range(70)]
    yield "\n".join(rows)[:600]


def mixed_texts():
    """Texts of up to 600 signs with words, figures, brackets, quotes, blanks and rows, the same in each run."""
    chance = random.Random(5)
    kinds = ("ab1 \n", "ab1 Z9.,\n\n", "()[]{}a \n", "()()a", "\"'a \n", "ab1 ()[]{}\"\n", SIGNS + "\n" * 9)
    for number, kind in enumerate(kinds * 3):
        length = (chance.randrange(10, 40), chance.randrange(40, 120), 600)[number // len(kinds)]
        yield "".join(chance.choice(kind) for sign in range(length))


def by_walking(text):
    """For each place its row and column, and for each row its begin and end, sign by sign."""
    places = [(0, 0)]
    bounds = [[0, 0]]
    for place, sign in enumerate(text, start=1):
        row, column = places[-1]
        if sign == "\n":
            places.append((row + 1, 0))
            bounds.append([place, place])
        else:
            places.append((row, column + 1))
            bounds[-1][1] = place
    return places, bounds


def words_of(text):
    """The begin and the end of each word."""
    return [found.span() for found in re.finditer("[A-Za-z0-9]+", text)]


def partners_of(text):
    """For each bracket that has one its partner, as point 10 tells it."""
    found = {}
    for opening, closing in ("()", "[]", "{}"):
        for low in range(len(text)):
            for high in range(low + 1, len(text) if text[low] == opening else 0):
                between = text[low + 1:high]
                if text[high] == closing and between.count(opening) == between.count(closing):
                    found[low] = high
                    found[high] = low
                    break
    return found


def pieces_of(text, one):
    """The pieces of a stretch, as point 16 tells them."""
    low, high, kind = one
    if kind != "block":
        return [(low, high)]
    places, bounds = by_walking(text)
    columns = sorted((places[low][1], places[high][1]))
    rows = bounds[places[low][0]:places[high][0] + 1]
    return [tuple(min(begin + column, end) for column in columns) for begin, end in rows]


def stretches(text, step=1):
    """Stretches of all three kinds between the places of a text, or between some of them."""
    places = sorted(set(range(0, len(text) + 1, step)) | {len(text)})
    for low, high in itertools.combinations_with_replacement(places, 2):
        for kind in ("signs", "rows", "block"):
            yield (low, high, kind)


class Walked:
    """What the document tells of a text's rows, words and brackets, asked without the program."""

    def __init__(self, text):
        self.text = text
        self.places, self.bounds = by_walking(text)
        self.words = words_of(text)
        self.partners = partners_of(text)


def wrong_numbers(least, greatest):
    """Whole numbers outside these bounds, by one and by very much."""
    near = [least - 1, least - 2, greatest + 1, greatest + 2]
    return near + [-much for much in VERY_MUCH] + list(VERY_MUCH)


class Refusing:
    """For a TestCase: asks that a call is refused with just one class, that splices lead on, and the like."""

    def assert_refused(self, refusal, asked, *handed):
        with self.assertRaises(ValueError) as caught:
            asked(*handed)
        told = caught.exception
        self.assertIs(type(told), refusal)
        self.assertIsInstance(told, errors.ModeError)
        for other in REFUSALS:
            self.assertEqual(isinstance(told, other), other is refusal)
        return told

    def assert_leads(self, text, splices, wanted):
        """Splices that fit, one by one, lead from text to text; each changes something."""
        self.assertIs(type(splices), list)
        for splice in splices:
            self.assertIs(type(splice), tuple)
            at, out, put = splice
            self.assert_whole(at)
            self.assertTrue(0 <= at <= len(text))
            self.assertEqual(text[at:at + len(out)], out)
            self.assertNotEqual(out, put)
            text = text[:at] + put + text[at + len(out):]
        self.assertEqual(text, wanted)

    def assert_whole(self, value):
        """True and False are equal to 1 and 0, but no whole numbers."""
        self.assertIs(type(value), int)
