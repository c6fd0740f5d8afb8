import itertools
import unittest

from helper import Walked, long_texts, mixed_texts, small_texts
from modehand.moves import by_rows, gone
from modehand.things import move_stretch, stretch

THINGS = ("c", "a", "i", "r", "(", ")", "[", "]", "{", "}", "'", "\"", "s")
PASSED_OVER = ("c", "a", "i", "'", "\"", "s")
MOVES = ("h", "l", "j", "k", "b", "e", "w", "v", "o", "g", "z", "p", "fa", "ta", "ma", "mb")
COUNTS = (None, 1, 2, 3, 999)


class Told(Walked):
    """The stretches of a text, as points 13 to 15 tell them."""

    def behind(self, row):
        return self.bounds[row + 1][0] if row + 1 < len(self.bounds) else len(self.text)

    def by_rows(self, one, other):
        first, last = sorted((self.places[one][0], self.places[other][0]))
        return (self.bounds[first][0], self.behind(last), "rows")

    def stretch(self, key, place, count, seen):
        row = self.places[place][0]
        word = [pair for pair in self.words if pair[0] <= place < pair[1]]
        many = count or 1
        if key == "c":
            return (*word[0], "signs") if word else None
        if key == "a":
            behind = self.text[word[0][1]:] if word else ""
            blanks = len(behind) - len(behind.lstrip(" "))
            return (word[0][0], word[0][1] + blanks, "signs") if word else None
        if key == "i":
            return (*self.bounds[row], "signs")
        if key == "r":
            last = row + many - 1
            return (self.bounds[row][0], self.behind(last), "rows") if last < len(self.bounds) else None
        if key in "'\"":
            return self.held(self.quotes(row), place, key == "\"", 1)
        if key == "s":
            return self.seen(place, seen)
        kind = [kind for kind in ("()", "[]", "{}") if key in kind][0]
        pairs = [pair for pair in self.partners.items() if self.text[pair[0]] == kind[0]]
        return self.held(pairs, place, key == kind[1], many)

    def quotes(self, row):
        found = [at for at in range(*self.bounds[row]) if self.text[at] == "\""]
        return [(found[number], found[number + 1]) for number in range(0, len(found) // 2 * 2, 2)]

    def held(self, pairs, place, both, many):
        around = sorted(((low, high) for low, high in pairs if low < place <= high), reverse=True)
        if many > len(around):
            return None
        low, high = around[many - 1]
        return (low, high + 1, "signs") if both else (low + 1, high, "signs")

    def seen(self, place, seen):
        if seen is None:
            return None
        if seen[1] == "r":
            return self.by_rows(seen[0], place)
        return (min(seen[0], place), max(seen[0], place), {"s": "signs", "b": "block"}[seen[1]])


class AsTold(unittest.TestCase):
    def assert_things_as_told(self, text, counts):
        told = Told(text)
        for place in range(len(text) + 1):
            for key in THINGS[:-1]:
                for count in counts:
                    self.assertEqual(
                        stretch(key, text, place, count), told.stretch(key, place, count, None),
                        (key, text, place, count),
                    )

    def assert_seen_as_told(self, text, begins):
        told = Told(text)
        for seen in [None] + [(begin, way) for begin in begins for way in "srb"]:
            for place in range(len(text) + 1):
                self.assertEqual(stretch("s", text, place, None, seen), told.stretch("s", place, None, seen))

    def assert_moves_as_told(self, text, counts):
        told = Told(text)
        marks = {"a": 0}
        for place in range(len(text) + 1):
            for keys in MOVES:
                for count in counts:
                    led = gone(keys, text, place, count, marks)
                    wanted = None if led is None else (min(place, led), max(place, led), "signs")
                    if led is not None and by_rows(keys):
                        wanted = told.by_rows(place, led)
                    self.assertEqual(move_stretch(keys, text, place, count, marks), wanted)

    def test_things_of_small_texts(self):
        for signs in ("a \n", "(a)\n", "()[]", "\"a\n"):
            for text in small_texts(4, signs):
                self.assert_things_as_told(text, (None, 1, 2, 3))
        for text in itertools.chain(small_texts(6, "()"), small_texts(6, "\"a")):
            self.assert_things_as_told(text, (None, 2))

    def test_things_of_mixed_texts(self):
        for text in mixed_texts():
            self.assert_things_as_told(text, COUNTS if len(text) < 600 else (None, 2))

    def test_seen(self):
        for text in small_texts(5):
            self.assert_seen_as_told(text, range(len(text) + 1))
        for text in itertools.chain(mixed_texts(), long_texts()):
            self.assert_seen_as_told(text, (0, 10, len(text)))

    def test_moves(self):
        for text in itertools.chain(small_texts(4, "a \n"), small_texts(3, "(a)\n")):
            self.assert_moves_as_told(text, (None, 1, 2, 3, 999))
        for text in itertools.chain(mixed_texts(), long_texts()):
            self.assert_moves_as_told(text, (None,))


class MoveStretches(unittest.TestCase):
    def test_by_signs(self):
        text = "ab cd\nef"
        self.assertEqual(move_stretch("w", text, 0), (0, 3, "signs"))
        self.assertEqual(move_stretch("w", text, 4), (4, 6, "signs"))
        self.assertEqual(move_stretch("v", text, 7), (6, 7, "signs"))
        self.assertEqual(move_stretch("h", text, 2), (1, 2, "signs"))
        self.assertEqual(move_stretch("b", text, 4), (0, 4, "signs"))
        self.assertEqual(move_stretch("e", text, 4), (4, 5, "signs"))
        self.assertEqual(move_stretch("z", text, 4), (4, 8, "signs"))
        self.assertEqual(move_stretch("fd", text, 0), (0, 4, "signs"))
        self.assertEqual(move_stretch("ta", text, 2), (0, 2, "signs"))
        self.assertEqual(move_stretch("p", "x(a)", 1), (1, 4, "signs"))
        self.assertEqual(move_stretch("p", "x(a)", 4), (1, 4, "signs"))

    def test_by_rows(self):
        text = "ab\ncd\nef"
        self.assertEqual(move_stretch("j", text, 1), (0, 6, "rows"))
        self.assertEqual(move_stretch("j", text, 4), (3, 8, "rows"))
        self.assertEqual(move_stretch("k", text, 4), (0, 6, "rows"))
        self.assertEqual(move_stretch("k", text, 8), (3, 8, "rows"))
        self.assertEqual(move_stretch("g", text, 4), (0, 6, "rows"))
        self.assertEqual(move_stretch("g", text, 4, 2), (3, 6, "rows"))
        self.assertEqual(move_stretch("g", text, 4, 3), (3, 8, "rows"))
        self.assertEqual(move_stretch("g", text, 7, 3), (6, 8, "rows"))

    def test_rows_without_signs(self):
        self.assertEqual(move_stretch("g", "", 0), (0, 0, "rows"))
        self.assertEqual(move_stretch("j", "\n", 0), (0, 1, "rows"))
        self.assertEqual(move_stretch("k", "\n\n", 1), (0, 2, "rows"))
        self.assertEqual(move_stretch("g", "a\n", 2, 2), (2, 2, "rows"))

    def test_where_the_move_leads_to_the_hand(self):
        self.assertEqual(move_stretch("b", "ab", 0), (0, 0, "signs"))
        self.assertEqual(move_stretch("e", "ab", 2), (2, 2, "signs"))
        self.assertEqual(move_stretch("z", "", 0), (0, 0, "signs"))
        self.assertEqual(move_stretch("ma", "ab", 1, None, {"a": 1}), (1, 1, "signs"))
        self.assertEqual(move_stretch("g", "ab\nc", 0), (0, 3, "rows"))

    def test_counts(self):
        self.assertEqual(move_stretch("l", "abcd", 0, 4), (0, 4, "signs"))
        self.assertIsNone(move_stretch("l", "abcd", 0, 5))
        self.assertIsNone(move_stretch("l", "abcd", 0, 999))
        self.assertEqual(move_stretch("j", "a\nb\nc\nd", 0, 2), (0, 6, "rows"))
        self.assertEqual(move_stretch("k", "a\nb\nc\nd", 6, 2), (2, 7, "rows"))
        self.assertIsNone(move_stretch("k", "a\nb\nc\nd", 6, 4))
        self.assertEqual(move_stretch("b", "abcd", 3, 999), (0, 3, "signs"))

    def test_marks(self):
        marks = {"a": 3}
        self.assertEqual(move_stretch("ma", "ab\ncd", 1, None, marks), (1, 3, "signs"))
        self.assertEqual(move_stretch("ma", "ab\ncd", 5, 7, marks), (3, 5, "signs"))
        self.assertEqual(move_stretch("ma", "ab\ncd", 5, marks=marks), (3, 5, "signs"))
        self.assertIsNone(move_stretch("mb", "ab\ncd", 1, None, marks))
        self.assertIsNone(move_stretch("ma", "ab\ncd", 1))
        self.assertIsNone(move_stretch("ma", "ab\ncd", 1, None, None))
        self.assertIsNone(move_stretch("ma", "ab\ncd", 1, None, {}))
        self.assertEqual(marks, {"a": 3})

    def test_where_the_move_cant_be_made(self):
        for keys in ("h", "k", "v", "tx", "p", "mx"):
            self.assertIsNone(move_stretch(keys, "ab\ncd", 0))
        for keys in ("l", "j", "w", "o", "fx", "p", "mx"):
            self.assertIsNone(move_stretch(keys, "ab\ncd", 5))
        self.assertIsNone(move_stretch("g", "ab\ncd", 5, 3))


class Things(unittest.TestCase):
    def told(self, key, text, count=None):
        """The stretch for each place of the text, without its kind."""
        return [None if one is None else one[:2] for one in self.whole(key, text, count)]

    def whole(self, key, text, count=None):
        return [stretch(key, text, place, count) for place in range(len(text) + 1)]

    def test_word(self):
        self.assertEqual(self.told("c", "ab, 1\nc"), [(0, 2), (0, 2), None, None, (4, 5), None, (6, 7), None])
        self.assertEqual(stretch("c", "a" * 600, 300), (0, 600, "signs"))

    def test_spaced_word(self):
        self.assertEqual(self.told("a", "ab  c\n d"), [(0, 4), (0, 4), None, None, (4, 5), None, None, (7, 8), None])
        self.assertEqual(self.told("a", "a \n b"), [(0, 2), None, None, None, (4, 5), None])
        self.assertEqual(stretch("a", "ab   ", 1), (0, 5, "signs"))
        self.assertEqual(stretch("a", "ab, c", 1), (0, 2, "signs"))

    def test_no_word(self):
        for key in ("c", "a"):
            self.assertEqual(self.told(key, ""), [None])
            self.assertEqual(self.told(key, " -\n"), [None] * 4)

    def test_signs_of_the_row(self):
        self.assertEqual(self.whole("i", "ab\n\nc"), [
            (0, 2, "signs"), (0, 2, "signs"), (0, 2, "signs"), (3, 3, "signs"), (4, 5, "signs"), (4, 5, "signs"),
        ])
        self.assertEqual(self.whole("i", ""), [(0, 0, "signs")])

    def test_rows(self):
        text = "ab\n\nc"
        one = [(0, 3, "rows")] * 3 + [(3, 4, "rows")] + [(4, 5, "rows")] * 2
        self.assertEqual(self.whole("r", text), one)
        self.assertEqual(self.whole("r", text, 1), one)
        self.assertEqual(self.whole("r", text, 2), [(0, 4, "rows")] * 3 + [(3, 5, "rows"), None, None])
        self.assertEqual(self.whole("r", text, 3), [(0, 5, "rows")] * 3 + [None] * 3)
        for many in (4, 5, 999):
            self.assertEqual(self.whole("r", text, many), [None] * 6)

    def test_the_last_row_without_signs(self):
        self.assertEqual(self.whole("r", ""), [(0, 0, "rows")])
        self.assertEqual(self.whole("r", "a\n"), [(0, 2, "rows"), (0, 2, "rows"), (2, 2, "rows")])
        self.assertEqual(self.whole("r", "a\n", 2), [(0, 2, "rows"), (0, 2, "rows"), None])
        self.assertEqual(stretch("r", "\n" * 600, 0, 601), (0, 600, "rows"))
        self.assertIsNone(stretch("r", "\n" * 600, 1, 601))

    def test_brackets(self):
        for opening, closing in ("()", "[]", "{}"):
            text = "x" + opening + "ab" + closing + "y"
            self.assertEqual(self.told(opening, text), [None, None, (2, 4), (2, 4), (2, 4), None, None])
            self.assertEqual(self.told(closing, text), [None, None, (1, 5), (1, 5), (1, 5), None, None])
            self.assertEqual(stretch(opening, text, 2), (2, 4, "signs"))
            self.assertEqual(stretch(closing, text, 2), (1, 5, "signs"))

    def test_nothing_between(self):
        self.assertEqual(self.told("(", "()"), [None, (1, 1), None])
        self.assertEqual(self.told(")", "()"), [None, (0, 2), None])
        self.assertEqual(self.told("'", "\"\""), [None, (1, 1), None])
        self.assertEqual(self.told("\"", "\"\""), [None, (0, 2), None])

    def test_in_one_another(self):
        text = "(a(b)c)"
        self.assertEqual(self.told("(", text), [None] + [(1, 6)] * 2 + [(3, 4)] * 2 + [(1, 6)] * 2 + [None])
        self.assertEqual(self.told(")", text, 2), [None, None, None, (0, 7), (0, 7), None, None, None])
        self.assertEqual(self.told(")", text, 3), [None] * 8)

    def test_outwards_by_count(self):
        deep = "(" * 300 + ")" * 300
        for count in (1, 2, 299, 300):
            self.assertEqual(stretch(")", deep, 300, count), (300 - count, 300 + count, "signs"))
            self.assertEqual(stretch("(", deep, 300, count), (301 - count, 299 + count, "signs"))
        for count in (301, 302, 999):
            self.assertIsNone(stretch(")", deep, 300, count))
            self.assertIsNone(stretch("(", deep, 300, count))

    def test_side_by_side(self):
        self.assertEqual(self.told("[", "[a][b]"), [None, (1, 2), (1, 2), None, (4, 5), (4, 5), None])
        self.assertEqual(stretch("]", "[[a][b]]", 5), (4, 7, "signs"))
        self.assertEqual(stretch("]", "[[a][b]]", 4), (0, 8, "signs"))
        self.assertEqual(stretch("]", "[[a][b]]", 5, 2), (0, 8, "signs"))

    def test_brackets_without_a_partner(self):
        self.assertEqual(self.told("(", "(a"), [None] * 3)
        self.assertEqual(self.told("(", "a)"), [None] * 3)
        self.assertEqual(self.told("(", "((a)"), [None, None, (2, 3), (2, 3), None])
        self.assertEqual(self.told("(", "((a)", 2), [None] * 5)
        self.assertEqual(self.told("(", "(a))"), [None, (1, 2), (1, 2), None, None])
        self.assertEqual(self.told("(", ")a("), [None] * 4)
        self.assertEqual(self.told("(", "(a]"), [None] * 4)

    def test_kinds_that_cross(self):
        self.assertEqual(self.told(")", "(a[b)c]"), [None, (0, 5), (0, 5), (0, 5), (0, 5), None, None, None])
        self.assertEqual(self.told("]", "(a[b)c]"), [None, None, None, (2, 7), (2, 7), (2, 7), (2, 7), None])

    def test_pairs_of_several_rows(self):
        self.assertEqual(stretch("{", "{\na\n}", 2), (1, 4, "signs"))

    def test_only_of_this_kind(self):
        self.assertEqual(stretch("(", "([a])", 2), (1, 4, "signs"))
        self.assertEqual(stretch("(", "([a])", 2, 1), (1, 4, "signs"))
        self.assertIsNone(stretch("(", "([a])", 2, 2))
        self.assertIsNone(stretch("{", "([a])", 2))

    def test_quotes(self):
        text = "a\"b\"c\"d\""
        inner = [None, None, (2, 3), (2, 3), None, None, (6, 7), (6, 7), None]
        outer = [None, None, (1, 4), (1, 4), None, None, (5, 8), (5, 8), None]
        self.assertEqual(self.told("'", text), inner)
        self.assertEqual(self.told("\"", text), outer)
        self.assertEqual((stretch("'", text, 2), stretch("\"", text, 2)), ((2, 3, "signs"), (1, 4, "signs")))

    def test_an_odd_number_of_quotes(self):
        self.assertEqual(self.told("'", "\"a\"b\"c"), [None, (1, 2), (1, 2)] + [None] * 4)
        self.assertEqual(self.told("'", "a\"b"), [None] * 4)

    def test_quotes_are_paired_row_by_row(self):
        self.assertEqual(self.told("'", "\"a\nb\""), [None] * 6)
        self.assertEqual(self.told("'", "\"\n\"a\""), [None, None, None, (3, 4), (3, 4), None])

    def test_other_marks_are_no_quotes(self):
        for key in ("'", "\""):
            self.assertEqual(self.told(key, "'a'"), [None] * 4)
            self.assertEqual(self.told(key, ""), [None])

    def test_count_is_passed_over(self):
        text = "ab \"(c)\" d\ne"
        for key in PASSED_OVER:
            for place in range(len(text) + 1):
                for count in (1, 2, 999):
                    self.assertEqual(
                        stretch(key, text, place, count, (2, "b")), stretch(key, text, place, None, (2, "b")),
                    )

    def test_none_counted_is_one(self):
        text = "((a)\nb)\nc"
        for key in ("r", "(", ")"):
            self.assertEqual(self.told(key, text), self.told(key, text, 1))

    def test_what_is_no_thing(self):
        for key in ("", "x", "h", "()", "C", "<", "\n"):
            self.assertIsNone(stretch(key, "a(b)\nc", 2))


class Seen(unittest.TestCase):
    def test_nothing(self):
        self.assertIsNone(stretch("s", "abc", 1))
        self.assertIsNone(stretch("s", "abc", 1, None, None))
        self.assertIsNone(stretch("s", "abc", 1, 2, None))

    def test_by_signs(self):
        self.assertEqual(stretch("s", "ab\ncd", 4, None, (1, "s")), (1, 4, "signs"))
        self.assertEqual(stretch("s", "ab\ncd", 1, None, (4, "s")), (1, 4, "signs"))
        self.assertEqual(stretch("s", "ab\ncd", 4, seen=(4, "s")), (4, 4, "signs"))

    def test_by_rows(self):
        text = "ab\ncd\nef"
        self.assertEqual(stretch("s", text, 4, None, (1, "r")), (0, 6, "rows"))
        self.assertEqual(stretch("s", text, 1, None, (4, "r")), (0, 6, "rows"))
        self.assertEqual(stretch("s", text, 4, None, (4, "r")), (3, 6, "rows"))
        self.assertEqual(stretch("s", text, 8, None, (4, "r")), (3, 8, "rows"))
        self.assertEqual(stretch("s", "", 0, None, (0, "r")), (0, 0, "rows"))

    def test_a_block(self):
        text = "abc\nd\nefg"
        self.assertEqual(stretch("s", text, 7, None, (2, "b")), (2, 7, "block"))
        self.assertEqual(stretch("s", text, 2, None, (7, "b")), (2, 7, "block"))
        self.assertEqual(stretch("s", text, 7, None, (7, "b")), (7, 7, "block"))

    def test_other_things_dont_ask_what_is_seen(self):
        text = "a\"(b)\"\nc"
        for key in THINGS[:-1]:
            for place in range(len(text) + 1):
                self.assertEqual(stretch(key, text, place, None, (1, "b")), stretch(key, text, place))


class Kinds(unittest.TestCase):
    def assert_stretch(self, text, one):
        if one is None:
            return
        self.assertIs(type(one), tuple)
        low, high, kind = one
        self.assertEqual((type(low), type(high), type(kind)), (int, int, str))
        self.assertTrue(0 <= low <= high <= len(text))
        self.assertIn(kind, ("signs", "rows", "block"))

    def test_stretches_are_told(self):
        text = "a (\"b\")\n[c] {d}\n"
        for place in range(len(text) + 1):
            for key in THINGS:
                for seen in (None, (3, "s"), (3, "r"), (3, "b")):
                    self.assert_stretch(text, stretch(key, text, place, None, seen))
            for keys in MOVES:
                self.assert_stretch(text, move_stretch(keys, text, place, None, {"a": 1}))


if __name__ == "__main__":
    unittest.main()
