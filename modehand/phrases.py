"""Phrases: read from a row of keys, and written (points 23 and 24 of the document)."""

from modehand.errors import NoPhrase
from modehand.rows import is_whole

SIGNS = " !\"#$&'()*+,-./0123456789:;<=>?@ABCDEFGHIJKLMNOPQRSTUVWXYZ[\\]^_`abcdefghijklmnopqrstuvwxyz{|}"
LETTERS = "abcdefghijklmnopqrstuvwxyz"
MOST_COUNT = 999

MOVES = "hljkbewvoftgzpm"
THINGS = "cair([{)]}'\"s"

WITH_SHELF = "CYXP"
WITH_COUNT = "CYXGSDFJTRPZANEL.@"
WITHOUT_COUNT = "MKV:"
WITH_TARGET = "CYXGSDFJ"
ENDS = {"X": "~", "T": "~", ":": "\n"}


# Once a key is not as wanted, or there is none, nothing more is taken: at tells then where that was.
class Reader:
    def __init__(self, row):
        self.row = row
        self.at = 0
        self.stuck = False

    def meets(self, wanted):
        return not self.stuck and self.at < len(self.row) and self.row[self.at] in wanted

    def take(self, wanted):
        if not self.meets(wanted):
            self.stuck = True
            return ""
        self.at = self.at + 1
        return self.row[self.at - 1]

    def take_all(self, wanted):
        begin = self.at
        while self.meets(wanted):
            self.at = self.at + 1
        return self.row[begin:self.at]


def read_shelf(reader):
    if not reader.meets("\""):
        return ""
    reader.take("\"")
    return reader.take(LETTERS)


# A nought ahead, or a figure too many, is left for the verb, which it is not.
def read_count(reader):
    if not reader.meets("123456789"):
        return None
    figures = reader.take("123456789")
    while len(figures) < 3 and reader.meets("0123456789"):
        figures = figures + reader.take("0123456789")
    return int(figures)


def read_verb(reader, shelf, count):
    if shelf != "":
        return reader.take(WITH_SHELF)
    if reader.meets(MOVES):
        return ""
    if count is not None:
        return reader.take(WITH_COUNT)
    return reader.take(WITH_COUNT + WITHOUT_COUNT)


def read_aim(reader, wanted):
    key = reader.take(wanted)
    if key in ("f", "t"):
        return key + reader.take(SIGNS)
    if key == "m":
        return key + reader.take(LETTERS)
    return key


def read_target(reader, verb):
    if verb == "":
        return read_aim(reader, MOVES)
    if verb in WITH_TARGET:
        return read_aim(reader, MOVES + THINGS)
    return ""


def read_up_to(reader, end, wanted):
    typed = reader.take_all(wanted)
    reader.take(end)
    return typed


def read_typed(reader, verb):
    if verb in ("X", "T"):
        return read_up_to(reader, ENDS[verb], SIGNS + "\n")
    if verb == ":":
        return read_up_to(reader, ENDS[verb], SIGNS + "~")
    if verb == "R":
        return reader.take(SIGNS)
    if verb in ("M", "K", "@"):
        return reader.take(LETTERS)
    if verb == "V":
        return reader.take("srb")
    return ""


def read_phrase(reader):
    shelf = read_shelf(reader)
    count = read_count(reader)
    verb = read_verb(reader, shelf, count)
    target = read_target(reader, verb)
    return (shelf, count, verb, target, read_typed(reader, verb))


def first(keys):
    reader = Reader(keys)
    phrase = read_phrase(reader)
    if not reader.stuck:
        return ("phrase", phrase, reader.at)
    if reader.at == len(keys):
        return ("half",)
    return ("none", reader.at + 1)


def is_count(count):
    return count is None or is_whole(count) and 1 <= count <= MOST_COUNT


def put_together(phrase):
    shelf = "" if phrase[0] == "" else "\"" + phrase[0]
    figures = "" if phrase[1] is None else str(phrase[1])
    return shelf + figures + phrase[2] + phrase[3] + phrase[4] + ENDS.get(phrase[2], "")


# A phrase has but one writing, so a tuple is one just where its keys are read back to it.
# The count is asked first: Python won't write one of many thousand figures.
def written(phrase):
    if not is_count(phrase[1]):
        raise NoPhrase("no count of a phrase")
    keys = put_together(phrase)
    if first(keys) != ("phrase", phrase, len(keys)):
        raise NoPhrase("no phrase")
    return keys
