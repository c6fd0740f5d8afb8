import itertools
import unittest

from helper import Refusing, by_walking, long_texts, small_texts, wrong_numbers
from modehand.errors import NoPlace, NoRow
from modehand.rows import begin_of, column_of, end_of, place_of, row_count, row_of


def asked_texts():
    return itertools.chain(small_texts(7), small_texts(4, "a \n"), long_texts())


class OrdinaryTexts(Refusing, unittest.TestCase):
    def test_places_have_their_rows_and_columns(self):
        for text in asked_texts():
            places, bounds = by_walking(text)
            self.assertEqual(len(places), len(text) + 1)
            self.assertEqual(row_count(text), len(bounds))
            for place, (row, column) in enumerate(places):
                self.assertEqual(row_of(text, place), row)
                self.assertEqual(column_of(text, place), column)
                self.assertEqual(place_of(text, row, column), place)

    def test_rows_have_their_begins_and_ends(self):
        for text in asked_texts():
            for row, (begin, end) in enumerate(by_walking(text)[1]):
                self.assertEqual(begin_of(text, row), begin)
                self.assertEqual(end_of(text, row), end)

    def test_a_column_beyond_the_row_leads_to_its_end(self):
        for text in asked_texts():
            for row, (begin, end) in enumerate(by_walking(text)[1]):
                for beyond in (0, 1, 2, 700, 10 ** 30, 10 ** 5000):
                    self.assertEqual(place_of(text, row, end - begin + beyond), end)

    def test_answers_are_whole_numbers(self):
        text = "a\nb"
        self.assert_whole(row_count(""))
        for place in (0, 1, 2, 3):
            self.assert_whole(row_of(text, place))
            self.assert_whole(column_of(text, place))
        for row in (0, 1):
            self.assert_whole(begin_of(text, row))
            self.assert_whole(end_of(text, row))
            self.assert_whole(place_of(text, row, 0))
            self.assert_whole(place_of(text, row, 9))


class Edges(unittest.TestCase):
    def test_a_text_without_signs_has_one_row(self):
        self.assertEqual(row_count(""), 1)
        self.assertEqual((row_of("", 0), column_of("", 0)), (0, 0))
        self.assertEqual((begin_of("", 0), end_of("", 0)), (0, 0))
        self.assertEqual([place_of("", 0, column) for column in (0, 1, 600)], [0, 0, 0])

    def test_a_text_without_line_feeds_has_one_row(self):
        self.assertEqual(row_count("abc"), 1)
        self.assertEqual([row_of("abc", place) for place in range(4)], [0, 0, 0, 0])
        self.assertEqual([column_of("abc", place) for place in range(4)], [0, 1, 2, 3])
        self.assertEqual((begin_of("abc", 0), end_of("abc", 0)), (0, 3))

    def test_first_and_last_row(self):
        text = "ab\ncde\nf"
        self.assertEqual(row_count(text), 3)
        self.assertEqual([begin_of(text, row) for row in range(3)], [0, 3, 7])
        self.assertEqual([end_of(text, row) for row in range(3)], [2, 6, 8])
        self.assertEqual((row_of(text, 0), column_of(text, 0)), (0, 0))
        self.assertEqual((row_of(text, 8), column_of(text, 8)), (2, 1))

    def test_a_line_feed_belongs_to_the_row_that_it_ends(self):
        self.assertEqual((row_of("ab\nc", 2), column_of("ab\nc", 2)), (0, 2))
        self.assertEqual((row_of("ab\nc", 3), column_of("ab\nc", 3)), (1, 0))

    def test_line_feeds_at_both_ends(self):
        text = "\nab\n"
        self.assertEqual(row_count(text), 3)
        self.assertEqual([row_of(text, place) for place in range(5)], [0, 1, 1, 1, 2])
        self.assertEqual([column_of(text, place) for place in range(5)], [0, 0, 1, 2, 0])
        self.assertEqual([begin_of(text, row) for row in range(3)], [0, 1, 4])
        self.assertEqual([end_of(text, row) for row in range(3)], [0, 3, 4])

    def test_rows_without_signs(self):
        text = "\n\n\n"
        self.assertEqual(row_count(text), 4)
        for row in range(4):
            self.assertEqual((begin_of(text, row), end_of(text, row)), (row, row))
            self.assertEqual(place_of(text, row, 5), row)

    def test_a_shorter_row(self):
        text = "abcd\nx\n\nabcd"
        self.assertEqual([place_of(text, row, 3) for row in range(4)], [3, 6, 7, 11])

    def test_only_line_feeds_end_rows(self):
        self.assertEqual(row_count("a b}c\\n"), 1)


class WrongInputs(Refusing, unittest.TestCase):
    def texts(self):
        return ["", "a", "\n", "abc", "\nab\n", "a\n\nb", "x" * 600, "\n" * 600]

    def test_no_place(self):
        for text in self.texts():
            for place in wrong_numbers(0, len(text)):
                self.assert_refused(NoPlace, row_of, text, place)
                self.assert_refused(NoPlace, column_of, text, place)

    def test_no_row(self):
        for text in self.texts():
            for row in wrong_numbers(0, text.count("\n")):
                self.assert_refused(NoRow, begin_of, text, row)
                self.assert_refused(NoRow, end_of, text, row)
                for column in (0, 1, 600, 10 ** 30):
                    self.assert_refused(NoRow, place_of, text, row, column)

    def test_true_and_false_are_no_whole_numbers(self):
        for wrong in (True, False):
            self.assert_refused(NoPlace, row_of, "a\nb", wrong)
            self.assert_refused(NoPlace, column_of, "a\nb", wrong)
            self.assert_refused(NoRow, begin_of, "a\nb", wrong)
            self.assert_refused(NoRow, end_of, "a\nb", wrong)
            self.assert_refused(NoRow, place_of, "a\nb", wrong, 0)


if __name__ == "__main__":
    unittest.main()
