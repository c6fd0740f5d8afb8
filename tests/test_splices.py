import itertools
import unittest

from helper import VERY_MUCH, Refusing, long_texts, small_texts, wrong_numbers
from modehand.errors import NoFit
from modehand.splices import all_shifted, all_spliced, shifted, spliced, turned, way_back

TEXTS = list(small_texts(4, "ab\n"))
PUTS = ["", "a", "b", "\n", "ba", "xyz"]


def fitting(text):
    """Every splice of some few puts that fits the text."""
    for at in range(len(text) + 1):
        for behind in range(at, len(text) + 1):
            for put in PUTS:
                yield (at, text[at:behind], put)


def marked(text, splice):
    """The text spliced with its signs numbered, to see where each has come."""
    signs = list(range(len(text))) + ["end"]
    at, out, put = splice
    signs[at:at + len(out)] = ["put"] * len(put)
    return signs


class OneSplice(Refusing, unittest.TestCase):
    def test_told_examples(self):
        self.assertEqual(spliced("abcd", (1, "bc", "XYZ")), "aXYZd")
        self.assertEqual(spliced("abcd", (0, "ab", "")), "cd")
        self.assertEqual(spliced("abcd", (4, "", "\n")), "abcd\n")
        self.assertEqual(spliced("abcd", (0, "", "x")), "xabcd")
        self.assertEqual(spliced("abcd", (3, "d", "x")), "abcx")
        self.assertEqual(spliced("abcd", (0, "abcd", "")), "")
        self.assertEqual(spliced("abcd", (2, "", "")), "abcd")
        self.assertEqual(spliced("", (0, "", "a\nb")), "a\nb")
        self.assertEqual(spliced("", (0, "", "")), "")
        self.assertEqual(spliced("a\n\nb", (1, "\n\n", " ")), "a b")
        self.assertEqual(spliced("aaa", (1, "a", "b")), "aba")

    def test_takes_out_and_puts(self):
        for text in TEXTS:
            for at, out, put in fitting(text):
                told = spliced(text, (at, out, put))
                self.assertEqual(told[:at], text[:at])
                self.assertEqual(told[at:at + len(put)], put)
                self.assertEqual(told[at + len(put):], text[at + len(out):])

    def test_long_texts(self):
        for text in long_texts():
            end = len(text)
            self.assertEqual(spliced(text, (0, text, "")), "")
            self.assertEqual(spliced(text, (end, "", "z")), text + "z")
            self.assertEqual(spliced(text, (0, "", "z")), "z" + text)
            self.assertEqual(spliced(text, (end - 1, text[-1], "")), text[:-1])
            self.assertEqual(spliced(text, (250, text[250:350], "z")), text[:250] + "z" + text[350:])

    def test_no_length_is_refused(self):
        self.assertEqual(spliced("x" * 600, (300, "", "y" * 600)), "x" * 300 + "y" * 600 + "x" * 300)

    def test_turned_about(self):
        self.assertEqual(turned((3, "out", "put")), (3, "put", "out"))
        self.assertEqual(turned((0, "", "put")), (0, "put", ""))
        self.assertEqual(turned((0, "", "")), (0, "", ""))

    def test_turned_about_leads_back(self):
        for text in TEXTS:
            for splice in fitting(text):
                self.assertEqual(turned(turned(splice)), splice)
                self.assertEqual(spliced(spliced(text, splice), turned(splice)), text)

    def test_turned_tells_a_tuple(self):
        self.assertIs(type(turned((1, "a", "b"))), tuple)


class NotFitting(Refusing, unittest.TestCase):
    def test_by_one_sign(self):
        for splice in [
            (1, "bd", ""), (1, "xc", ""), (1, "B", ""), (0, "abcde", ""), (0, "abcd\n", ""),
            (3, "de", ""), (4, "d", ""), (4, "a", "a"), (0, "b", "b"), (2, "b", ""), (1, " ", ""),
        ]:
            self.assert_refused(NoFit, spliced, "abcd", splice)
        self.assert_refused(NoFit, spliced, "", (0, "a", ""))
        self.assert_refused(NoFit, spliced, "a b", (1, "\n", ""))

    def test_by_their_place(self):
        for text in ["", "a", "abab", "\n\n", "x" * 600]:
            for at in wrong_numbers(0, len(text)):
                for out in ("", "a", "b", "x", "\n", text, text[1:]):
                    self.assert_refused(NoFit, spliced, text, (at, out, "z"))
                    self.assert_refused(NoFit, spliced, text, (at, out, out))

    def test_a_place_below_nought_is_not_counted_from_the_end(self):
        self.assert_refused(NoFit, spliced, "abc", (-1, "c", ""))
        self.assert_refused(NoFit, spliced, "abc", (-3, "abc", ""))
        self.assert_refused(NoFit, spliced, "abc", (-3, "", ""))

    def test_all_that_do_not_fit_small_texts(self):
        for text in small_texts(3, "ab"):
            fit = {splice[:2] for splice in fitting(text)}
            for at in range(-2, 6):
                for out in small_texts(3, "ab"):
                    if (at, out) not in fit:
                        self.assert_refused(NoFit, spliced, text, (at, out, "a"))

    def test_true_and_false_are_no_places(self):
        self.assert_refused(NoFit, spliced, "ab", (True, "b", ""))
        self.assert_refused(NoFit, spliced, "ab", (False, "a", ""))


class OnePlace(Refusing, unittest.TestCase):
    def test_told_examples(self):
        splice = (3, "out", "by")
        self.assertEqual([shifted(place, splice) for place in range(9)], [0, 1, 2, 3, 3, 3, 5, 6, 7])

    def test_where_out_is_empty_the_place_goes_on(self):
        self.assertEqual([shifted(place, (2, "", "xyz")) for place in range(5)], [0, 1, 5, 6, 7])
        self.assertEqual(shifted(0, (0, "", "x")), 1)

    def test_where_put_is_empty(self):
        self.assertEqual([shifted(place, (2, "ab", "")) for place in range(6)], [0, 1, 2, 2, 2, 3])

    def test_where_both_are_empty_every_place_stays(self):
        self.assertEqual([shifted(place, (2, "", "")) for place in range(5)], [0, 1, 2, 3, 4])

    def test_where_as_much_is_put_as_taken_out(self):
        self.assertEqual([shifted(place, (1, "ab", "xy")) for place in range(5)], [0, 1, 1, 3, 4])

    def test_a_place_at_the_splice_with_signs_taken_out_stays_at_it(self):
        self.assertEqual(shifted(4, (4, "a", "bcd")), 4)
        self.assertEqual(shifted(4, (4, "a", "")), 4)

    def test_goes_with_its_sign(self):
        for text in TEXTS:
            for splice in fitting(text):
                signs = marked(text, splice)
                for place, sign in enumerate(list(range(len(text))) + ["end"]):
                    there = signs.index(sign) if sign in signs else splice[0]
                    self.assertEqual(shifted(place, splice), there)

    def test_places_by_very_much(self):
        for much in VERY_MUCH:
            self.assertEqual(shifted(much, (0, "ab", "c")), much - 1)
            self.assertEqual(shifted(3, (much, "ab", "c")), 3)

    def test_answers_are_whole_numbers(self):
        for place in (0, 1, 2):
            self.assert_whole(shifted(place, (1, "a", "")))


class SeveralSplices(Refusing, unittest.TestCase):
    def test_no_splices(self):
        for text in ["", "ab\n", "x" * 600]:
            self.assertEqual(all_spliced(text, []), text)
        self.assertEqual([all_shifted(place, []) for place in (0, 1, 600)], [0, 1, 600])
        self.assertEqual(way_back([]), [])

    def test_each_fits_the_text_that_it_comes_to(self):
        splices = [(0, "", "xy"), (2, "ab", ""), (0, "xy\n", "z")]
        self.assertEqual(all_spliced("ab\nc", splices), "zc")
        self.assertEqual([all_shifted(place, splices) for place in range(5)], [0, 0, 0, 1, 2])
        self.assertEqual(way_back(splices), [(0, "z", "xy\n"), (2, "", "ab"), (0, "xy", "")])

    def test_the_order_counts(self):
        self.assertEqual(all_spliced("a", [(0, "", "x"), (0, "", "y")]), "yxa")
        self.assertEqual(all_shifted(1, [(1, "", "x"), (2, "xy", "")]), 2)
        self.assertEqual(all_shifted(1, [(2, "xy", ""), (1, "", "x")]), 2)
        self.assertEqual(all_shifted(1, [(0, "ab", ""), (0, "", "x")]), 1)
        self.assertEqual(all_shifted(1, [(0, "", "x"), (0, "ab", "")]), 0)

    def test_two_by_two_and_back(self):
        for text in small_texts(3):
            for one in fitting(text):
                between = spliced(text, one)
                for other in itertools.islice(fitting(between), 0, None, 5):
                    both = [one, other]
                    told = all_spliced(text, both)
                    self.assertEqual(told, spliced(between, other))
                    self.assertEqual(way_back(both), [turned(other), turned(one)])
                    self.assertEqual(all_spliced(told, way_back(both)), text)
                    for place in range(len(text) + 1):
                        there = shifted(shifted(place, one), other)
                        self.assertEqual(all_shifted(place, both), there)

    def test_long_texts_there_and_back(self):
        for text in long_texts():
            splices = [(place, text[place], "") for place in reversed(range(len(text)))]
            self.assertEqual(all_spliced(text, splices), "")
            self.assertEqual(all_spliced("", way_back(splices)), text)
            self.assertEqual(way_back(way_back(splices)), splices)
            self.assertEqual(all_shifted(len(text), splices), 0)

    def test_one_that_does_not_fit(self):
        first, wrong, last = (0, "a", "b"), (0, "a", "b"), (0, "b", "c")
        self.assertEqual(all_spliced("a", [first, last]), "c")
        for splices in [[last, first], [first, wrong, last], [first, last, wrong], [wrong, wrong]]:
            self.assert_refused(NoFit, all_spliced, "a", splices)

    def test_one_in_the_middle_by_its_place(self):
        for at in wrong_numbers(0, 2):
            self.assert_refused(NoFit, all_spliced, "ab", [(2, "", ""), (at, "", ""), (0, "", "")])

    def test_fitting_the_first_text_alone_is_not_enough(self):
        self.assert_refused(NoFit, all_spliced, "ab", [(0, "a", ""), (1, "b", "")])


class NothingIsChanged(unittest.TestCase):
    def splices(self):
        return [(0, "", "xy"), (2, "a", ""), (2, "b", "c")]

    def test_the_list_handed_in_stays(self):
        for asked, first in ((all_spliced, "ab"), (all_shifted, 1)):
            splices = self.splices()
            asked(first, splices)
            self.assertEqual(splices, self.splices())
        splices = self.splices()
        way_back(splices)
        self.assertEqual(splices, self.splices())

    def test_the_list_handed_in_stays_where_it_is_refused(self):
        splices = self.splices()
        with self.assertRaises(NoFit):
            all_spliced("b", splices)
        self.assertEqual(splices, self.splices())

    def test_the_list_told_by_way_back_is_another_one(self):
        for splices in ([], [(1, "", "")], [(1, "a", "a"), (1, "a", "a")], self.splices()):
            before = list(splices)
            told = way_back(splices)
            self.assertIs(type(told), list)
            self.assertIsNot(told, splices)
            later = way_back(splices)
            self.assertIsNot(told, later)
            told.append((9, "z", "z"))
            told[0] = (8, "y", "y")
            self.assertEqual(splices, before)
            self.assertEqual(way_back(splices), later)

    def test_changing_the_list_handed_in_changes_no_answer(self):
        splices = self.splices()
        told = way_back(splices)
        before = list(told)
        splices.clear()
        self.assertEqual(told, before)
        self.assertEqual(way_back([]), [])


if __name__ == "__main__":
    unittest.main()
