import itertools
import re
import unittest

from helper import SIGNS, VERY_MUCH, Refusing
from modehand.errors import NoPhrase
from modehand.phrases import first, written

LETTERS = "abcdefghijklmnopqrstuvwxyz"
KEYS = SIGNS + "\n~"
MOVES = list("hljkbewvogzp") + [key + sign for key in "ft" for sign in SIGNS] + ["m" + letter for letter in LETTERS]
THINGS = list("cair([{)]}'\"s")
SHELVES = ["", *LETTERS]
COUNTS = [None, 1, 2, 9, 10, 19, 90, 99, 100, 101, 909, 998, 999]
TYPED = ["", "a", "hi there", "\n", "a\nb\n\n", "\"a3Cw", "0", "T:", SIGNS + "\n"]
LINES = ["", "a", "~", "~~", "T a~", "s/a/b/g", SIGNS + "~"]

# The table of point 23, row by row: verbs, shelves, counts, targets, typed, and the key that ends these.
TABLE = (
    (("",), [""], COUNTS, MOVES, [""], ""),
    ("CY", SHELVES, COUNTS, MOVES + THINGS, [""], ""),
    ("X", SHELVES, COUNTS, MOVES + THINGS, TYPED, "~"),
    ("GSDFJ", [""], COUNTS, MOVES + THINGS, [""], ""),
    ("T", [""], COUNTS, [""], TYPED, "~"),
    ("R", [""], COUNTS, [""], list(SIGNS), ""),
    ("P", SHELVES, COUNTS, [""], [""], ""),
    ("MK", [""], [None], [""], list(LETTERS), ""),
    ("V", [""], [None], [""], list("srb"), ""),
    ("ZANEL.", [""], COUNTS, [""], [""], ""),
    ("@", [""], COUNTS, [""], list(LETTERS), ""),
    (":", [""], [None], [""], LINES, "\n"),
)
VERBS = [verb for row in TABLE for verb in row[0]]

# The same table once more, as patterns of whole phrases with the groups shelf, count, verb, target and typed.
SIGN = "[ -$&-}]"
MOVE = f"[hljkbewvogzp]|[ft]{SIGN}|m[a-z]"
AIM = MOVE + "|[cair(\\[{)\\]}'\"s]"
SHELF = "(?:\"([a-z]))?"
COUNT = "([1-9][0-9]?[0-9]?)?"
PATTERNS = [re.compile(pattern) for pattern in (
    f"(){COUNT}()({MOVE})()",
    f"{SHELF}{COUNT}([CY])({AIM})()",
    f"{SHELF}{COUNT}(X)({AIM})((?:{SIGN}|\n)*)~",
    f"(){COUNT}([GSDFJ])({AIM})()",
    f"(){COUNT}(T)()((?:{SIGN}|\n)*)~",
    f"(){COUNT}(R)()({SIGN})",
    f"{SHELF}{COUNT}(P)()()",
    "()()([MK])()([a-z])",
    "()()(V)()([srb])",
    f"(){COUNT}([ZANEL.])()()",
    f"(){COUNT}(@)()([a-z])",
    f"()()(:)()((?:{SIGN}|~)*)\n",
)]

# Each half a phrase becomes a whole one by one of these.
FURTHER = ("w", "a", "P", "aP", "w~", "a~", "~", "s", "\n")


def phrases_of(verb, shelves, counts):
    """Phrases of a verb with every target and everything typed that is listed, and what is written for each."""
    row = [row for row in TABLE if verb in row[0]][0]
    for target, typed in itertools.product(row[3], row[4]):
        for shelf in [one for one in shelves if one in row[1]]:
            for count in [one for one in counts if one in row[2]]:
                keys = ("\"" + shelf if shelf else "") + (str(count) if count else "") + verb + target + typed + row[5]
                yield (shelf, count, verb, target, typed), keys


def phrases():
    """Phrases of every verb with few shelves and counts."""
    for verb in VERBS:
        yield from phrases_of(verb, ("", "a", "z"), (None, 1, 10, 999))


def some_phrases():
    """Some of the phrases of every verb with all shelves and counts."""
    for verb in VERBS:
        yield from itertools.islice(phrases_of(verb, SHELVES, COUNTS), 0, None, 61)


def begun(keys):
    """The phrase with which the keys begin, and how many keys it has; or None."""
    found = [pattern.match(keys) for pattern in PATTERNS]
    told = [one for one in found if one]
    if not told:
        return None
    shelf, count, verb, target, typed = told[0].groups()
    return (shelf or "", int(count) if count else None, verb, target, typed), told[0].end()


def hopeful(keys):
    return any(begun(keys + further) for further in FURTHER)


def told_first(keys):
    """The first phrase, as point 24 tells it."""
    phrase = begun(keys)
    if phrase:
        return ("phrase", *phrase)
    for many in range(len(keys) + 1):
        if not hopeful(keys[:many]):
            return ("none", many)
    return ("half",)


class WrittenAndRead(Refusing, unittest.TestCase):
    def test_every_row_of_the_table(self):
        for phrase, keys in phrases():
            self.assertEqual(written(phrase), keys)
            self.assertEqual(first(keys), ("phrase", phrase, len(keys)))

    def test_every_shelf_and_count(self):
        for phrase, keys in some_phrases():
            self.assertEqual(written(phrase), keys)
            self.assertEqual(first(keys), ("phrase", phrase, len(keys)))

    def test_more_keys_behind(self):
        for phrase, keys in some_phrases():
            for more in ("w", "~", "\n", "0", "9", "\"", "Q", "\"a3Cw", "~\n~"):
                self.assertEqual(first(keys + more), ("phrase", phrase, len(keys)))

    def test_every_beginning_is_half(self):
        for phrase, keys in some_phrases():
            for many in range(len(keys)):
                self.assertEqual(first(keys[:many]), ("half",))

    def test_every_verb_is_asked(self):
        self.assertEqual(sorted(VERBS), sorted(["", *"CYXGSDFJTRPMKVZANEL.@:"]))
        self.assertEqual({phrase[2] for phrase, keys in some_phrases()}, set(VERBS))

    def test_told_examples(self):
        self.assertEqual(first("\"a3Cw"), ("phrase", ("a", 3, "C", "w", ""), 5))
        self.assertEqual(first("fx"), ("phrase", ("", None, "", "fx", ""), 2))
        self.assertEqual(first("X)hi~"), ("phrase", ("", None, "X", ")", "hi"), 5))
        self.assertEqual(written(("a", 3, "C", "w", "")), "\"a3Cw")
        self.assertEqual(written(("", None, "", "fx", "")), "fx")
        self.assertEqual(written(("", None, "X", ")", "hi")), "X)hi~")

    def test_figures_that_are_no_count(self):
        self.assertEqual(first("R3"), ("phrase", ("", None, "R", "", "3"), 2))
        self.assertEqual(first("2R3"), ("phrase", ("", 2, "R", "", "3"), 3))
        self.assertEqual(first("3f0"), ("phrase", ("", 3, "", "f0", ""), 3))
        self.assertEqual(first("T12~"), ("phrase", ("", None, "T", "", "12"), 4))
        self.assertEqual(first("Cw3"), ("phrase", ("", None, "C", "w", ""), 2))

    def test_quotes_that_are_no_shelf(self):
        self.assertEqual(first("C\"a"), ("phrase", ("", None, "C", "\"", ""), 2))
        self.assertEqual(first("\"cC\""), ("phrase", ("c", None, "C", "\"", ""), 4))
        self.assertEqual(first("R\"a"), ("phrase", ("", None, "R", "", "\""), 2))
        self.assertEqual(first("f\"a"), ("phrase", ("", None, "", "f\"", ""), 2))

    def test_what_ends_typed_keys(self):
        self.assertEqual(first("T~~"), ("phrase", ("", None, "T", "", ""), 2))
        self.assertEqual(first("Ta\nb~\n"), ("phrase", ("", None, "T", "", "a\nb"), 5))
        self.assertEqual(first("Xw\n~"), ("phrase", ("", None, "X", "w", "\n"), 4))
        self.assertEqual(first(":\n\n"), ("phrase", ("", None, ":", "", ""), 2))
        self.assertEqual(first(":a~b~\nw"), ("phrase", ("", None, ":", "", "a~b~"), 6))
        self.assertEqual(first(":a\n~"), ("phrase", ("", None, ":", "", "a"), 3))

    def test_rows_of_500_keys(self):
        self.assertEqual(first("T" + "a" * 498 + "~"), ("phrase", ("", None, "T", "", "a" * 498), 500))
        self.assertEqual(first("T" + "a" * 499), ("half",))
        self.assertEqual(first(":" + "~" * 498 + "\n"), ("phrase", ("", None, ":", "", "~" * 498), 500))
        self.assertEqual(first(":" + "\"" * 499), ("half",))
        self.assertEqual(first("w" * 500), ("phrase", ("", None, "", "w", ""), 1))
        self.assertEqual(first("9" * 500), ("none", 4))
        self.assertEqual(written(("", None, "T", "", "a" * 600)), "T" + "a" * 600 + "~")


class Unread(unittest.TestCase):
    def test_no_key_is_half(self):
        self.assertEqual(first(""), ("half",))

    def test_counts(self):
        self.assertEqual(first("999"), ("half",))
        self.assertEqual(first("999w"), ("phrase", ("", 999, "", "w", ""), 4))
        self.assertEqual(first("1000"), ("none", 4))
        self.assertEqual(first("1000w"), ("none", 4))
        self.assertEqual(first("9999w"), ("none", 4))
        self.assertEqual(first("0"), ("none", 1))
        self.assertEqual(first("0w"), ("none", 1))
        self.assertEqual(first("01w"), ("none", 1))
        self.assertEqual(first("100w"), ("phrase", ("", 100, "", "w", ""), 4))
        self.assertEqual(first("\"a01C"), ("none", 3))
        self.assertEqual(first("\"a1000Cw"), ("none", 6))
        self.assertEqual(first("C3w"), ("none", 2))
        self.assertEqual(first("3\"aCw"), ("none", 2))

    def test_a_shelf_where_there_is_none(self):
        for key in set(KEYS) - set("CYXP123456789"):
            self.assertEqual(first("\"a" + key), ("none", 3))
            self.assertEqual(first("\"a" + key + "w~"), ("none", 3))
        for key in set(KEYS) - set("CYXP"):
            self.assertEqual(first("\"a123" + key), ("none", 6))

    def test_a_count_where_there_is_none(self):
        for verb in "MKV:":
            self.assertEqual(first("1" + verb), ("none", 2))
            self.assertEqual(first("123" + verb + "s\n"), ("none", 4))

    def test_wrong_letters_of_shelves(self):
        for sign in set(KEYS) - set(LETTERS):
            self.assertEqual(first("\"" + sign + "Cw"), ("none", 2))

    def test_signs_behind_f_t_and_r(self):
        for begin in ("f", "t", "R", "9f", "9t", "9R", "Cf", "\"aYt", "Xf"):
            for key in "\n~":
                self.assertEqual(first(begin + key), ("none", len(begin) + 1))
                self.assertEqual(first(begin + key + "~"), ("none", len(begin) + 1))

    def test_letters_behind_m_and_its_like(self):
        for begin in ("m", "9m", "Cm", "M", "K", "@", "9@"):
            for key in set(KEYS) - set(LETTERS):
                self.assertEqual(first(begin + key), ("none", len(begin) + 1))
        for key in set(KEYS) - set("srb"):
            self.assertEqual(first("V" + key), ("none", 2))

    def test_keys_that_begin_no_phrase(self):
        for key in "cairsdnquxyBHIOQUW()[]{}'~\n !#$&*+,-/;<=>?\\^_`|0":
            self.assertEqual(first(key), ("none", 1))
            self.assertEqual(first(key + "w"), ("none", 1))
            self.assertEqual(first("123" + key + "w"), ("none", 4))

    def test_targets_that_are_none(self):
        for verb in "CYXGSDFJ":
            for key in set(KEYS) - set("hljkbewvoftgzpm") - set(THINGS):
                self.assertEqual(first(verb + key + "~"), ("none", 2))


class AsTold(unittest.TestCase):
    def test_every_row_of_two_keys(self):
        for many in range(3):
            for keys in itertools.product(KEYS, repeat=many):
                keys = "".join(keys)
                self.assertEqual(first(keys), told_first(keys), keys)

    def test_every_row_of_few_keys(self):
        for alphabet, most in (("\"a01CXwfm~\nTR:M", 4), ("\"a9Pw0", 6), ("XT:~\na", 5)):
            for many in range(most + 1):
                for keys in itertools.product(alphabet, repeat=many):
                    keys = "".join(keys)
                    self.assertEqual(first(keys), told_first(keys), keys)


class NoPhrases(Refusing, unittest.TestCase):
    def assert_none(self, *phrase):
        self.assert_refused(NoPhrase, written, phrase)

    def test_counts(self):
        for count in (0, -1, 1000, 1001, -999, True, False, "3", "", 1.0, [], *VERY_MUCH, -10 ** 5000):
            self.assert_none("", count, "", "w", "")
            self.assert_none("a", count, "C", "w", "")
            self.assert_none("", count, "M", "", "a")

    def test_shelves(self):
        for shelf in ("A", "ab", "1", " ", "\"", "~", "\n", "a3", "aa", "\u00e4", "\"a"):
            for verb, target in (("C", "w"), ("Y", "s"), ("X", "w"), ("P", "")):
                self.assert_none(shelf, None, verb, target, "")

    def test_verbs(self):
        for verb in (*"QBHIOUWcairsdn~\n0%\"", "CC", "Cw", "CY", "ZZ", "3", "fx", "\u00c4"):
            for target in ("", "w"):
                self.assert_none("", None, verb, target, "")
        self.assert_none("", None, "", "", "")

    def test_what_the_table_does_not_have(self):
        for verbs, shelves, counts, targets, typings, end in TABLE:
            for verb in verbs:
                target = targets[0]
                typed = typings[0]
                self.assertEqual(written(("", None, verb, target, typed)), verb + target + typed + end)
                if shelves == [""]:
                    self.assert_none("a", None, verb, target, typed)
                if counts == [None]:
                    self.assert_none("", 1, verb, target, typed)
                if targets == [""]:
                    self.assert_none("", None, verb, "w", typed)
                    self.assert_none("", None, verb, "c", typed)
                else:
                    self.assert_none("", None, verb, "", typed)
                if typings == [""]:
                    self.assert_none("", None, verb, target, "a")
                    self.assert_none("", None, verb, target, "~")
                    self.assert_none("", None, verb, target, "\n")
                if "" not in typings:
                    self.assert_none("", None, verb, target, "")
                    self.assert_none("", None, verb, target, typed + typed)

    def test_targets(self):
        for target in ("f", "t", "m", "f\n", "t\n", "f~", "f%", "fab", "mA", "m1", "m\n", "ww", "q", "3", "3w"):
            for verb in ("", *"CYXGSDFJ"):
                self.assert_none("", None, verb, target, "")
        for thing in THINGS:
            self.assert_none("", None, "", thing, "")

    def test_typed(self):
        for typed in ("~", "a~", "~a", "a~b", "%", "\t", "\r", "\x7f", "\u00e4"):
            self.assert_none("", None, "T", "", typed)
            self.assert_none("", None, "X", "w", typed)
        for typed in ("\n", "a\n", "\na", "a\nb", "%", "\t", "\x7f", "\u00e4"):
            self.assert_none("", None, ":", "", typed)
        for typed in ("", "\n", "~", "ab", "%", "\t"):
            self.assert_none("", None, "R", "", typed)
        for typed in ("", "A", "1", "ab", "~", "\n", " "):
            for verb in "MK@":
                self.assert_none("", None, verb, "", typed)
        for typed in ("", "a", "S", "sr", "~"):
            self.assert_none("", None, "V", "", typed)

    def test_parts_in_one_anothers_stead(self):
        self.assert_none("", None, "", "Cw", "")
        self.assert_none("", None, "3", "w", "")
        self.assert_none("", None, "\"aC", "w", "")
        self.assert_none("", None, "C", "f", "x")
        self.assert_none("", None, "", "f", "x")
        self.assert_none("", None, "M", "a", "")
        self.assert_none("", None, "R", "a", "")
        self.assert_none("", None, "T", "a", "")
        self.assert_none("", None, ":", "a", "")
        self.assert_none("", None, "", "", "w")
        self.assert_none("", None, "Tab~", "", "")


class Kinds(Refusing, unittest.TestCase):
    def test_phrases(self):
        for phrase, keys in some_phrases():
            told = first(keys)
            self.assertIs(type(told), tuple)
            self.assert_whole(told[2])
            self.assertEqual([type(one) for one in told[1]], [str, int if phrase[1] else type(None), str, str, str])
            self.assertIs(type(told[1]), tuple)
            self.assertIs(type(written(phrase)), str)

    def test_half_and_none(self):
        self.assertIs(type(first("")), tuple)
        told = first("q")
        self.assertIs(type(told), tuple)
        self.assert_whole(told[1])


if __name__ == "__main__":
    unittest.main()
