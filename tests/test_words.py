import itertools
import unittest

from helper import SIGNS, long_texts, mixed_texts, partners_of, small_texts, words_of
from modehand.words import begins, ends, partner


def asked_texts():
    return itertools.chain(small_texts(6, "a-"), small_texts(5, "a1\n"), long_texts(), mixed_texts())


class Words(unittest.TestCase):
    def begin_places(self, text):
        return [place for place in range(len(text) + 1) if begins(text, place)]

    def end_places(self, text):
        return [place for place in range(len(text) + 1) if ends(text, place)]

    def test_told_examples(self):
        text = "one, t2o\nTHREE 4"
        self.assertEqual(self.begin_places(text), [0, 5, 9, 15])
        self.assertEqual(self.end_places(text), [3, 8, 14, 16])

    def test_words_are_as_long_as_they_can_be(self):
        for text in asked_texts():
            words = words_of(text)
            self.assertEqual(self.begin_places(text), [low for low, high in words])
            self.assertEqual(self.end_places(text), [high for low, high in words])

    def test_a_word_at_both_ends_of_the_text(self):
        self.assertEqual((self.begin_places("ab c"), self.end_places("ab c")), ([0, 3], [2, 4]))
        self.assertEqual((self.begin_places("a"), self.end_places("a")), ([0], [1]))
        self.assertEqual((self.begin_places("a" * 600), self.end_places("a" * 600)), ([0], [600]))

    def test_no_word(self):
        for text in ("", " ", "\n", ".,-", "(\n)", " " * 600):
            self.assertEqual((self.begin_places(text), self.end_places(text)), ([], []))

    def test_which_signs_are_word_signs(self):
        letters = "abcdefghijklmnopqrstuvwxyz"
        for sign in SIGNS + "\n":
            is_one = sign in letters + letters.upper() + "0123456789"
            self.assertIs(begins(sign, 0), is_one)
            self.assertIs(ends(sign, 1), is_one)
            self.assertIs(begins(sign + "a", 1), not is_one)
            self.assertIs(ends("a" + sign, 1), not is_one)

    def test_a_line_feed_parts_words(self):
        self.assertEqual((self.begin_places("ab\ncd"), self.end_places("ab\ncd")), ([0, 3], [2, 5]))

    def test_no_word_begins_or_ends_beyond_the_text(self):
        for place in (-3, -2, -1, 4, 5, 700):
            self.assertIs(begins("abc", place), False)
            self.assertIs(ends("abc", place), False)

    def test_true_or_false_is_told(self):
        for text in ("", "a", "a b", "."):
            for place in range(len(text) + 1):
                self.assertIs(type(begins(text, place)), bool)
                self.assertIs(type(ends(text, place)), bool)


class Partners(unittest.TestCase):
    def partners(self, text):
        return [partner(text, place) for place in range(len(text) + 1)]

    def test_told_examples(self):
        self.assertEqual(self.partners("()"), [1, 0, None])
        self.assertEqual(self.partners("[]"), [1, 0, None])
        self.assertEqual(self.partners("{}"), [1, 0, None])
        self.assertEqual(self.partners("(a(b)c)"), [6, None, 4, None, 2, None, 0, None])
        self.assertEqual(self.partners("()[]{}"), [1, 0, 3, 2, 5, 4, None])
        self.assertEqual(self.partners("{[()]}"), [5, 4, 3, 2, 1, 0, None])

    def test_in_other_rows(self):
        self.assertEqual(self.partners("{\na\n}"), [4, None, None, None, 0, None])

    def test_without_a_partner(self):
        self.assertEqual(self.partners(")("), [None, None, None])
        self.assertEqual(self.partners("(()"), [None, 2, 1, None])
        self.assertEqual(self.partners("())"), [1, 0, None, None])
        self.assertEqual(self.partners("(]"), [None, None, None])
        self.assertEqual(self.partners("([{"), [None] * 4)

    def test_kinds_that_cross(self):
        self.assertEqual(self.partners("([)]"), [2, 3, 0, 1, None])
        self.assertEqual(self.partners("(]{)}"), [3, None, 4, 0, 2, None])

    def test_only_at_the_bracket_itself(self):
        self.assertEqual(self.partners("a (b) "), [None, None, 4, None, 2, None, None])

    def test_no_other_sign_has_one(self):
        for sign in SIGNS + "\n":
            self.assertIsNone(partner(sign * 3, 1))
            if sign not in "()[]{}":
                self.assertIsNone(partner("(" + sign + ")", 1))
        self.assertIsNone(partner("<>", 0))
        self.assertIsNone(partner("", 0))

    def test_as_many_open_as_close_between(self):
        texts = itertools.chain(small_texts(6, "()"), small_texts(4, "()[]"), small_texts(4, "{a}\n"), mixed_texts())
        for text in texts:
            found = partners_of(text)
            self.assertEqual(self.partners(text), [found.get(place) for place in range(len(text) + 1)])

    def test_many_in_one_another(self):
        deep = "(" * 300 + ")" * 300
        self.assertEqual([partner(deep, place) for place in range(600)], list(range(599, -1, -1)))
        self.assertEqual(partner("(" * 300 + ")" * 299, 0), None)

    def test_none_beyond_the_text(self):
        for place in (-2, -1, 2, 3, 700):
            self.assertIsNone(partner("()", place))

    def test_whole_numbers_are_told(self):
        for place in (0, 1):
            self.assertIs(type(partner("()", place)), int)


if __name__ == "__main__":
    unittest.main()
