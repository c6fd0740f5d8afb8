import itertools
import unittest

from helper import SIGNS, Walked, long_texts, mixed_texts, small_texts
from modehand.moves import by_rows, gone

ONE_KEY = ("h", "l", "j", "k", "b", "e", "w", "v", "o", "g", "z", "p")
SOME_MOVES = ONE_KEY + ("fa", "f ", "f(", "f\n", "ta", "t ", "t)", "t\n", "ma", "mb", "mz")
PASSED_OVER = ("b", "e", "z", "ma")


class Told(Walked):
    """Where the moves lead in a text, as points 9 to 12 tell it."""

    def gone(self, keys, place, count=None, marks=None):
        if keys == "g":
            starts = [0] + [begin for begin, end in self.bounds]
            return starts[count or 0] if (count or 0) < len(starts) else None
        if keys[0] == "m":
            return (marks or {}).get(keys[1])
        for step in range(1 if count is None or keys in PASSED_OVER else count):
            place = None if place is None else self.once(keys, place)
        return place

    def once(self, keys, place):
        row, column = self.places[place]
        begin, end = self.bounds[row]
        in_row = range(begin, end)
        return {
            "h": lambda: place - 1 if column else None,
            "l": lambda: None if place == end else place + 1,
            "j": lambda: self.in_row(row + 1, column),
            "k": lambda: self.in_row(row - 1, column),
            "b": lambda: begin,
            "e": lambda: end,
            "w": lambda: min((low for low, high in self.words if low > place), default=None),
            "v": lambda: max((low for low, high in self.words if low < place), default=None),
            "o": lambda: min((high for low, high in self.words if high > place), default=None),
            "f": lambda: min((at for at in in_row if at > place and self.text[at] == keys[1]), default=None),
            "t": lambda: max((at for at in in_row if at < place and self.text[at] == keys[1]), default=None),
            "z": lambda: len(self.text),
            "p": lambda: self.to_partner(place),
        }[keys[0]]()

    def in_row(self, row, column):
        if not 0 <= row < len(self.bounds):
            return None
        begin, end = self.bounds[row]
        return begin + min(column, end - begin)

    def to_partner(self, place):
        if self.text[place:place + 1] in ("(", "[", "{"):
            return self.partners[place] + 1 if place in self.partners else None
        if place > 0 and self.text[place - 1] in ")]}":
            return self.partners.get(place - 1)
        return None


class AsTold(unittest.TestCase):
    def assert_as_told(self, text, counts):
        told = Told(text)
        marks = {"a": 0, "b": len(text)}
        for place in range(len(text) + 1):
            for keys in SOME_MOVES:
                for count in counts:
                    self.assertEqual(
                        gone(keys, text, place, count, marks), told.gone(keys, place, count, marks),
                        (keys, text, place, count),
                    )

    def test_small_texts(self):
        for text in itertools.chain(small_texts(4, "a \n"), small_texts(4, "(a)\n"), small_texts(4, "([])")):
            self.assert_as_told(text, (None, 1, 2, 3, 4, 5, 6))

    def test_mixed_texts(self):
        for text in mixed_texts():
            self.assert_as_told(text, (None, 3) if len(text) < 600 else (None,))

    def test_long_texts(self):
        for text in long_texts():
            self.assert_as_told(text, (None,))


class Moves(unittest.TestCase):
    def led(self, keys, text, count=None, marks=None):
        """Where the move leads from each place of the text."""
        return [gone(keys, text, place, count, marks) for place in range(len(text) + 1)]

    def test_left_and_right_stay_in_the_row(self):
        self.assertEqual(self.led("h", "ab\n\nc"), [None, 0, 1, None, None, 4])
        self.assertEqual(self.led("l", "ab\n\nc"), [1, 2, None, None, 5, None])
        self.assertEqual((self.led("h", ""), self.led("l", "")), ([None], [None]))

    def test_down_and_up_keep_the_column(self):
        self.assertEqual(self.led("j", "abc\nd\nefg"), [4, 5, 5, 5, 6, 7, None, None, None, None])
        self.assertEqual(self.led("k", "abc\nd\nefg"), [None, None, None, None, 0, 1, 4, 5, 5, 5])

    def test_down_and_up_at_the_last_and_first_row(self):
        self.assertEqual((self.led("j", ""), self.led("k", "")), ([None], [None]))
        self.assertEqual((self.led("j", "a\n"), self.led("k", "\na")), ([2, 2, None], [None, 0, 0]))

    def test_begin_and_end_of_the_row(self):
        self.assertEqual(self.led("b", "ab\n\ncd"), [0, 0, 0, 3, 4, 4, 4])
        self.assertEqual(self.led("e", "ab\n\ncd"), [2, 2, 2, 3, 6, 6, 6])
        self.assertEqual((self.led("b", ""), self.led("e", "")), ([0], [0]))

    def test_words(self):
        text = "ab, c\n d"
        self.assertEqual(self.led("w", text), [4, 4, 4, 4, 7, 7, 7, None, None])
        self.assertEqual(self.led("v", text), [None, 0, 0, 0, 0, 4, 4, 4, 7])
        self.assertEqual(self.led("o", text), [2, 2, 5, 5, 5, 8, 8, 8, None])

    def test_words_at_the_hand_are_left(self):
        self.assertEqual([gone("w", "a b", place) for place in (0, 2)], [2, None])
        self.assertEqual([gone("v", "a b", place) for place in (0, 2)], [None, 0])
        self.assertEqual([gone("o", "a b", place) for place in (1, 3)], [3, None])

    def test_without_words(self):
        for keys in ("w", "v", "o"):
            self.assertEqual(self.led(keys, " .\n"), [None] * 4)
            self.assertEqual(self.led(keys, ""), [None])

    def test_find_behind_in_the_row(self):
        self.assertEqual(self.led("fx", "xax\nx"), [2, 2, None, None, None, None])
        self.assertEqual(self.led("fx", "ax\nbx"), [1, None, None, 4, None, None])

    def test_trace_ahead_in_the_row(self):
        self.assertEqual(self.led("tx", "xax\nx"), [None, 0, 0, 2, None, 4])
        self.assertEqual(self.led("tx", "xa\nb"), [None, 0, 0, None, None])

    def test_a_line_feed_stands_in_no_row(self):
        for text in ("\n", "a\n\nb\n", "\n\n\n"):
            self.assertEqual(self.led("f\n", text), [None] * (len(text) + 1))
            self.assertEqual(self.led("t\n", text), [None] * (len(text) + 1))

    def test_every_sign_is_found(self):
        for sign in SIGNS:
            self.assertEqual(gone("f" + sign, "\n" + sign + sign, 1), 2)
            self.assertEqual(gone("t" + sign, sign + sign + "\n", 2), 1)
            self.assertEqual(gone("f" + sign, "\n\n" + sign, 0), None)

    def test_great_and_small_letters_differ(self):
        self.assertIsNone(gone("fa", "xA", 0))
        self.assertIsNone(gone("tA", "ax", 1))

    def test_rows_by_number(self):
        text = "ab\n\nc"
        self.assertEqual([gone("g", text, 5, count) for count in (None, 1, 2, 3, 4, 999)], [0, 0, 3, 4, None, None])
        self.assertEqual([gone("g", text, 0, count) for count in (None, 1, 2, 3, 4, 999)], [0, 0, 3, 4, None, None])
        self.assertEqual([gone("g", "", 0, count) for count in (None, 1, 2)], [0, 0, None])
        self.assertEqual([gone("g", "\n" * 600, 7, count) for count in (600, 601, 602)], [599, 600, None])

    def test_the_texts_end(self):
        self.assertEqual(self.led("z", "a\nb"), [3, 3, 3, 3])
        self.assertEqual(self.led("z", ""), [0])

    def test_partner_from_an_opening_bracket(self):
        self.assertEqual(gone("p", "(a)b", 0), 3)
        self.assertEqual(gone("p", "[(])", 0), 3)
        self.assertEqual(gone("p", "{\n}", 0), 3)

    def test_partner_from_behind_a_closing_bracket(self):
        self.assertEqual(gone("p", "(a)b", 3), 0)
        self.assertEqual(gone("p", "x[a]", 4), 1)

    def test_an_opening_bracket_goes_before_a_closing_one(self):
        self.assertEqual(gone("p", "()[]", 2), 4)
        self.assertIsNone(gone("p", "()[", 2))

    def test_no_partner(self):
        self.assertEqual(self.led("p", ")("), [None] * 3)
        self.assertEqual(self.led("p", "(a)"), [3, None, None, 0])
        self.assertEqual(self.led("p", "(]"), [None] * 3)
        self.assertEqual(self.led("p", "ab"), [None] * 3)
        self.assertEqual(self.led("p", ""), [None])

    def test_made_where_it_leads_to_the_hand(self):
        self.assertEqual((gone("b", "ab", 0), gone("e", "ab", 2), gone("z", "ab", 2)), (0, 2, 2))
        self.assertEqual((gone("g", "ab", 0), gone("ma", "ab", 1, None, {"a": 1})), (0, 1))


class Marks(unittest.TestCase):
    def test_to_the_mark_of_the_letter(self):
        marks = {"a": 0, "b": 2, "z": 3}
        for letter, place in marks.items():
            self.assertEqual([gone("m" + letter, "a\nb", hand, None, marks) for hand in range(4)], [place] * 4)

    def test_where_none_is_set(self):
        self.assertIsNone(gone("ma", "abc", 1))
        self.assertIsNone(gone("ma", "abc", 1, None, None))
        self.assertIsNone(gone("ma", "abc", 1, 2, None))
        self.assertIsNone(gone("ma", "abc", 1, None, {}))
        self.assertIsNone(gone("ma", "abc", 1, None, {"b": 2}))

    def test_a_mark_beyond_the_text_leads_nowhere(self):
        for place in (-1, 4, 700):
            self.assertIsNone(gone("ma", "abc", 1, None, {"a": place}))

    def test_marks_stay_as_they_were(self):
        marks = {"a": 1, "b": 3}
        for keys in SOME_MOVES:
            for count in (None, 1, 2, 999):
                gone(keys, "a\nb", 1, count, marks)
        self.assertEqual(marks, {"a": 1, "b": 3})
        self.assertEqual(list(marks), ["a", "b"])

    def test_other_moves_need_no_marks(self):
        for keys in ONE_KEY + ("fb", "ta"):
            self.assertEqual(gone(keys, "a b", 1), gone(keys, "a b", 1, None, {"a": 0}))

    def test_handed_in_by_name(self):
        self.assertEqual(gone("ma", "abc", 0, marks={"a": 2}), 2)
        self.assertEqual(gone("l", "abc", 0, count=2), 2)
        self.assertEqual(gone(keys="l", text="abc", place=0), 1)


class Counts(unittest.TestCase):
    def assert_most(self, keys, text, place, most, led):
        """It can be made so many times, which leads there, and no more."""
        self.assertEqual(gone(keys, text, place, most), led)
        for more in (most + 1, most + 2, 999):
            self.assertIsNone(gone(keys, text, place, more))

    def test_none_is_one(self):
        for keys in ("h", "l", "j", "k", "b", "e", "w", "v", "o", "z", "p", "f ", "tb"):
            for place in range(9):
                self.assertEqual(gone(keys, "b b\nb()b", place), gone(keys, "b b\nb()b", place, 1))

    def test_as_many_as_can_be_made_and_one_more(self):
        self.assert_most("h", "ab\ncd", 5, 2, 3)
        self.assert_most("l", "ab\ncd", 0, 2, 2)
        self.assert_most("j", "a\nb\nc", 1, 2, 5)
        self.assert_most("k", "a\nb\nc", 4, 2, 0)
        self.assert_most("w", "a b c", 0, 2, 4)
        self.assert_most("v", "a b c", 5, 3, 0)
        self.assert_most("o", "a b c", 0, 3, 5)
        self.assert_most("f-", "a-b-\n-", 0, 2, 3)
        self.assert_most("t-", "-\n-b-a", 6, 2, 2)
        self.assert_most("p", "()[](", 0, 2, 4)

    def test_in_the_longest_texts(self):
        self.assert_most("l", "x" * 600, 0, 600, 600)
        self.assert_most("h", "x" * 600, 600, 600, 0)
        self.assert_most("j", "\n" * 600, 0, 600, 600)
        self.assert_most("k", "\n" * 600, 600, 600, 0)
        self.assert_most("w", " x" * 300, 0, 300, 599)
        self.assert_most("fx", "x" * 600, 0, 599, 599)

    def test_down_and_up_through_a_shorter_row(self):
        text = "abcd\nx\nabcd"
        self.assertEqual(gone("j", text, 3, 2), 8)
        self.assertEqual(gone("k", text, 10, 2), 1)
        self.assertEqual(gone("j", "abc\n\nabc", 2, 2), 5)
        self.assertEqual(gone("k", "abc\n\nabc", 7, 2), 0)

    def test_partner_again_and_again(self):
        self.assertEqual([gone("p", "(a)", 0, count) for count in (1, 2, 3, 998, 999)], [3, 0, 3, 0, 3])
        self.assertEqual([gone("p", "()[]{}", 0, count) for count in (1, 2, 3, 4, 5)], [2, 4, 6, 4, 6])
        self.assertEqual([gone("p", "()[", 0, count) for count in (1, 2)], [2, None])

    def test_passed_over(self):
        text = "ab\ncd"
        marks = {"a": 1}
        for place in range(len(text) + 1):
            for keys in PASSED_OVER:
                for count in (1, 2, 3, 999):
                    self.assertEqual(gone(keys, text, place, count, marks), gone(keys, text, place, None, marks))
        self.assertEqual([gone(keys, text, 4, 999, marks) for keys in PASSED_OVER], [3, 5, 5, 1])

    def test_somewhat_beyond_the_bounds(self):
        self.assertEqual(gone("l", "x" * 2000, 0, 1500), 1500)
        self.assertEqual(gone("g", "\n" * 2000, 0, 1500), 1499)


class Kinds(unittest.TestCase):
    def test_whole_numbers_are_told(self):
        text = "a (b)\nc a"
        for keys in SOME_MOVES:
            for place in range(len(text) + 1):
                for count in (None, 1, 2):
                    led = gone(keys, text, place, count, {"a": 1, "b": 9})
                    if led is not None:
                        self.assertIs(type(led), int)
                        self.assertTrue(0 <= led <= len(text))

    def test_what_is_no_move_leads_nowhere(self):
        for keys in ("", "x", "c", "f", "t", "m", "hh", "fab", "H", "1"):
            for count in (None, 1, 2):
                self.assertIsNone(gone(keys, "a b\nc", 1, count, {"a": 1}))


class ByRows(unittest.TestCase):
    def test_three_go_by_rows(self):
        for keys in SOME_MOVES:
            self.assertIs(by_rows(keys), keys in ("j", "k", "g"))

    def test_the_sign_behind_a_key_says_nothing(self):
        for keys in ("fj", "fk", "fg", "tj", "tk", "tg", "mj", "mk", "mg"):
            self.assertIs(by_rows(keys), False)


if __name__ == "__main__":
    unittest.main()
