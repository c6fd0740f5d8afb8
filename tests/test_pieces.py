import itertools
import unittest

from helper import long_texts, mixed_texts, pieces_of, small_texts
from modehand.pieces import pieces
from modehand.things import move_stretch, stretch


class OnePiece(unittest.TestCase):
    def test_by_signs_and_by_rows(self):
        for kind in ("signs", "rows"):
            self.assertEqual(pieces("ab\ncd", (0, 5, kind)), [(0, 5)])
            self.assertEqual(pieces("ab\ncd", (1, 4, kind)), [(1, 4)])
            self.assertEqual(pieces("ab\ncd", (3, 3, kind)), [(3, 3)])
            self.assertEqual(pieces("", (0, 0, kind)), [(0, 0)])

    def test_of_moves_and_things(self):
        text = "ab\ncd\nef"
        self.assertEqual(pieces(text, move_stretch("w", text, 1)), [(1, 3)])
        self.assertEqual(pieces(text, move_stretch("j", text, 1)), [(0, 6)])
        self.assertEqual(pieces(text, stretch("r", text, 4, 2)), [(3, 8)])
        self.assertEqual(pieces(text, stretch("i", text, 4)), [(3, 5)])
        self.assertEqual(pieces(text, stretch("s", text, 4, None, (1, "b"))), [(1, 1), (4, 4)])


class Blocks(unittest.TestCase):
    def test_told_examples(self):
        text = "abcd\nefgh\nijkl"
        self.assertEqual(pieces(text, (1, 13, "block")), [(1, 3), (6, 8), (11, 13)])
        self.assertEqual(pieces(text, (0, 9, "block")), [(0, 4), (5, 9)])
        self.assertEqual(pieces(text, (5, 7, "block")), [(5, 7)])

    def test_the_lesser_place_in_the_greater_column(self):
        text = "abcd\nefgh\nijkl"
        self.assertEqual(pieces(text, (3, 11, "block")), [(1, 3), (6, 8), (11, 13)])
        self.assertEqual(pieces(text, (4, 5, "block")), [(0, 4), (5, 9)])

    def test_one_column_has_no_signs(self):
        text = "abcd\nefgh\nijkl"
        self.assertEqual(pieces(text, (2, 12, "block")), [(2, 2), (7, 7), (12, 12)])
        self.assertEqual(pieces(text, (7, 7, "block")), [(7, 7)])
        self.assertEqual(pieces("", (0, 0, "block")), [(0, 0)])

    def test_shorter_rows(self):
        self.assertEqual(pieces("abcd\nef\nghij", (1, 11, "block")), [(1, 3), (6, 7), (9, 11)])
        self.assertEqual(pieces("abcd\ne\nfghi", (2, 11, "block")), [(2, 4), (6, 6), (9, 11)])

    def test_rows_without_signs(self):
        self.assertEqual(pieces("abcd\n\nfghi", (1, 9, "block")), [(1, 3), (5, 5), (7, 9)])
        self.assertEqual(pieces("\n\n", (0, 2, "block")), [(0, 0), (1, 1), (2, 2)])
        self.assertEqual(pieces("ab\n", (1, 3, "block")), [(0, 1), (3, 3)])

    def test_no_line_feed_is_in_a_block(self):
        text = "ab\nc\n\ndefg"
        for low in range(len(text) + 1):
            for high in range(low, len(text) + 1):
                for begin, end in pieces(text, (low, high, "block")):
                    self.assertNotIn("\n", text[begin:end])

    def test_as_told(self):
        for text in itertools.chain(small_texts(7), small_texts(4, "a \n")):
            for low in range(len(text) + 1):
                for high in range(low, len(text) + 1):
                    self.assertEqual(pieces(text, (low, high, "block")), pieces_of(text, (low, high, "block")))
        for text in itertools.chain(mixed_texts(), long_texts()):
            for low in range(0, len(text) + 1, 41):
                for high in range(low, len(text) + 1, 37):
                    self.assertEqual(pieces(text, (low, high, "block")), pieces_of(text, (low, high, "block")))


class Kinds(unittest.TestCase):
    def test_lists_of_rising_pairs_are_told(self):
        text = "abc\nd\n\nefgh"
        for kind in ("signs", "rows", "block"):
            for low in range(len(text) + 1):
                for high in range(low, len(text) + 1):
                    told = pieces(text, (low, high, kind))
                    self.assertIs(type(told), list)
                    flat = [place for pair in told for place in pair]
                    self.assertEqual(flat, sorted(flat))
                    self.assertEqual({type(pair) for pair in told}, {tuple})
                    self.assertEqual({len(pair) for pair in told}, {2})
                    self.assertEqual({type(place) for place in flat}, {int})

    def test_each_list_is_the_askers_own(self):
        text = "abc\nd"
        for one in ((0, 4, "signs"), (0, 4, "rows"), (0, 5, "block")):
            first = pieces(text, one)
            wanted = list(first)
            self.assertIsNot(first, pieces(text, one))
            first.append("more")
            first[0] = "other"
            self.assertEqual(pieces(text, one), wanted)


if __name__ == "__main__":
    unittest.main()
