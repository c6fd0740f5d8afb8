import copy
import itertools
import unittest

from helper import Refusing, Walked, long_texts, mixed_texts, small_texts, stretches
from modehand.lays import laid, put_over, typed_in
from modehand.verbs import done, shelved

TYPED = ("", "a", "\n", "ab\nc", "  ")
HELD = (
    ("signs", [""]), ("signs", ["ab"]), ("signs", ["a\nb"]),
    ("rows", [""]), ("rows", ["\n"]), ("rows", ["ab\n"]), ("rows", ["a\n\nb\n"]),
    ("block", [""]), ("block", ["", ""]), ("block", ["ab"]), ("block", ["a", "bcd", ""]),
    ("block", ["", "x", "yz", " "]),
)
COUNTS = (1, 2, 3)


class Told(Walked):
    """What is typed in, put over and laid, as points 20 to 22 tell it: a tuple (text, place), or None."""

    def typed_in(self, place, typed, count):
        return self.text[:place] + typed * count + self.text[place:], place + count * len(typed)

    def put_over(self, place, sign, count):
        if place + count > self.bounds[self.places[place][0]][1]:
            return None
        return self.text[:place] + sign * count + self.text[place + count:], place

    def laid(self, place, held, count):
        kind, texts = held
        if "~" in "".join(texts):
            return None
        row, column = self.places[place]
        rows = self.text.split("\n")
        if kind == "signs":
            return self.typed_in(place, texts[0], count)
        if kind == "rows":
            begin = self.bounds[row][0]
            return self.text[:begin] + texts[0] * count + self.text[begin:], begin
        rows += [""] * (row + len(texts) - len(rows))
        width = max(map(len, texts))
        for number, one in enumerate(texts, start=row):
            filled = (one + " " * (width - len(one))) * count
            rows[number] = rows[number][:column].ljust(column) + filled + rows[number][column:]
        return "\n".join(rows), place


class AsTold(Refusing, unittest.TestCase):
    def assert_told(self, text, wanted, found):
        if wanted is None or len(wanted[0]) > 600:
            self.assertIsNone(found)
            return
        self.assertIs(type(found), tuple)
        splices, place = found
        self.assertEqual(place, wanted[1])
        self.assert_whole(place)
        self.assert_leads(text, splices, wanted[0])

    def assert_all_told(self, text, places):
        told = Told(text)
        for place in places:
            for count in COUNTS:
                for typed in TYPED:
                    self.assert_told(text, told.typed_in(place, typed, count), typed_in(text, place, typed, count))
                for sign in "a ":
                    self.assert_told(text, told.put_over(place, sign, count), put_over(text, place, sign, count))
                for held in HELD:
                    self.assert_told(text, told.laid(place, held, count), laid(text, place, held, count))

    def test_small_texts(self):
        for text in itertools.chain(small_texts(5), small_texts(3, "a \n")):
            self.assert_all_told(text, range(len(text) + 1))

    def test_mixed_and_long_texts(self):
        for text in itertools.chain(mixed_texts(), long_texts()):
            self.assert_all_told(text, range(0, len(text) + 1, 23))
            self.assert_all_told(text[:580], range(0, len(text[:580]) + 1, 29))

    def test_one_splice_at_most_but_for_a_block(self):
        for text in small_texts(4, "a\n"):
            for place in range(len(text) + 1):
                for held in HELD:
                    splices = laid(text, place, held, 2)[0]
                    if held[0] != "block":
                        self.assertEqual(len(splices), 1 if held[1][0] else 0)


class TypedIn(unittest.TestCase):
    def test_once_and_several_times(self):
        self.assertEqual(typed_in("abc", 1, "xy"), ([(1, "", "xy")], 3))
        self.assertEqual(typed_in("abc", 1, "xy", 1), ([(1, "", "xy")], 3))
        self.assertEqual(typed_in("abc", 1, "xy", 3), ([(1, "", "xyxyxy")], 7))
        self.assertEqual(typed_in("abc", 0, "\n", 2), ([(0, "", "\n\n")], 2))
        self.assertEqual(typed_in("abc", 3, "x"), ([(3, "", "x")], 4))
        self.assertEqual(typed_in("", 0, "x"), ([(0, "", "x")], 1))

    def test_no_sign_has_no_splice(self):
        for count in (1, 2, 999):
            self.assertEqual(typed_in("abc", 1, "", count), ([], 1))
            self.assertEqual(typed_in("x" * 600, 600, "", count), ([], 600))

    def test_up_to_600_signs(self):
        self.assertEqual(typed_in("", 0, "x", 600), ([(0, "", "x" * 600)], 600))
        self.assertIsNone(typed_in("", 0, "x", 601))
        self.assertEqual(typed_in("a" * 590, 3, "xy", 5), ([(3, "", "xy" * 5)], 13))
        self.assertIsNone(typed_in("a" * 591, 3, "xy", 5))
        self.assertIsNone(typed_in("a" * 600, 3, "x"))
        self.assertIsNone(typed_in("", 0, "x" * 500, 999))


class PutOver(unittest.TestCase):
    def test_once_and_several_times(self):
        self.assertEqual(put_over("abcd", 1, "x"), ([(1, "b", "x")], 1))
        self.assertEqual(put_over("abcd", 1, "x", 1), ([(1, "b", "x")], 1))
        self.assertEqual(put_over("abcd", 1, "x", 3), ([(1, "bcd", "xxx")], 1))
        self.assertEqual(put_over("abcd", 0, " ", 4), ([(0, "abcd", "    ")], 0))

    def test_all_are_this_sign_already(self):
        self.assertEqual(put_over("axxd", 1, "x", 2), ([], 1))
        self.assertEqual(put_over("axxd", 1, "x", 3), ([(1, "xxd", "xxx")], 1))
        self.assertEqual(put_over("axxd", 0, "x", 3), ([(0, "axx", "xxx")], 0))

    def test_fewer_signs_in_the_row(self):
        self.assertIsNone(put_over("abcd", 1, "x", 4))
        self.assertIsNone(put_over("abcd", 4, "x"))
        self.assertIsNone(put_over("", 0, "x"))
        self.assertIsNone(put_over("ab\ncd", 2, "x"))
        self.assertIsNone(put_over("ab\ncd", 1, "x", 2))
        self.assertEqual(put_over("ab\ncd", 1, "x"), ([(1, "b", "x")], 1))
        self.assertEqual(put_over("ab\ncd", 3, "x", 2), ([(3, "cd", "xx")], 3))
        self.assertIsNone(put_over("\n\n", 1, "x"))

    def test_a_text_of_600_signs(self):
        self.assertEqual(put_over("a" * 600, 0, "x", 600), ([(0, "a" * 600, "x" * 600)], 0))
        self.assertEqual(put_over("a" * 600, 599, "x"), ([(599, "a", "x")], 599))
        self.assertIsNone(put_over("a" * 600, 0, "x", 601))
        self.assertIsNone(put_over("a" * 600, 0, "x", 999))


class LaidSignsAndRows(unittest.TestCase):
    def test_signs(self):
        self.assertEqual(laid("abc", 1, ("signs", ["x\ny"])), ([(1, "", "x\ny")], 4))
        self.assertEqual(laid("abc", 1, ("signs", ["xy"]), 3), ([(1, "", "xyxyxy")], 7))
        self.assertEqual(laid("", 0, ("signs", ["x"])), ([(0, "", "x")], 1))
        self.assertEqual(laid("abc", 3, ("signs", ["x"])), ([(3, "", "x")], 4))

    def test_rows_at_the_begin_of_the_hands_row(self):
        self.assertEqual(laid("ab\ncd", 4, ("rows", ["x\n"])), ([(3, "", "x\n")], 3))
        self.assertEqual(laid("ab\ncd", 2, ("rows", ["x\n"]), 2), ([(0, "", "x\nx\n")], 0))
        self.assertEqual(laid("ab\n", 3, ("rows", ["\n"]), 2), ([(3, "", "\n\n")], 3))
        self.assertEqual(laid("", 0, ("rows", ["x\n"])), ([(0, "", "x\n")], 0))

    def test_no_sign_has_no_splice(self):
        for count in (1, 7):
            self.assertEqual(laid("ab\ncd", 4, ("signs", [""]), count), ([], 4))
            self.assertEqual(laid("ab\ncd", 4, ("rows", [""]), count), ([], 3))

    def test_up_to_600_signs(self):
        text = "a" * 590
        self.assertEqual(laid(text, 2, ("signs", ["xxxx\n"]), 2), ([(2, "", "xxxx\n" * 2)], 12))
        self.assertEqual(laid(text, 2, ("rows", ["xxxx\n"]), 2), ([(0, "", "xxxx\n" * 2)], 0))
        for kind in ("signs", "rows"):
            self.assertIsNone(laid("a" * 591, 2, (kind, ["xxxx\n"]), 2))
            self.assertIsNone(laid(text, 2, (kind, ["xxxx\n"]), 3))
            self.assertIsNone(laid("", 0, (kind, ["x" * 599 + "\n"]), 999))
            self.assertIsNotNone(laid("", 0, (kind, ["x" * 599 + "\n"])))


class LaidBlock(Refusing, unittest.TestCase):
    def test_row_by_row_from_the_first_on(self):
        self.assertEqual(laid("abc\ndef", 1, ("block", ["x", "y"])), ([(1, "", "x"), (6, "", "y")], 1))
        self.assertEqual(laid("abc\ndef", 1, ("block", ["x", "y"]), 2), ([(1, "", "xx"), (7, "", "yy")], 1))
        self.assertEqual(laid("abc\ndef\nghi", 5, ("block", ["x", "y"])), ([(5, "", "x"), (10, "", "y")], 5))

    def test_texts_are_filled_up_to_the_longest(self):
        self.assertEqual(
            laid("abc\ndef\nghi", 1, ("block", ["x", "yyy", ""])),
            ([(1, "", "x  "), (8, "", "yyy"), (15, "", "   ")], 1),
        )
        self.assertEqual(
            laid("abc\ndef", 1, ("block", ["x", "yz"]), 2), ([(1, "", "x x "), (9, "", "yzyz")], 1),
        )

    def test_line_feeds_that_lack_come_first(self):
        self.assertEqual(laid("ab", 0, ("block", ["x", "y"])), ([(2, "", "\n"), (0, "", "x"), (4, "", "y")], 0))
        self.assertEqual(
            laid("ab\ncd", 4, ("block", ["x", "y", "z"])),
            ([(5, "", "\n\n"), (4, "", "x"), (7, "", " y"), (10, "", " z")], 4),
        )
        self.assertEqual(laid("ab\n", 3, ("block", ["x"])), ([(3, "", "x")], 3))
        self.assertEqual(laid("", 0, ("block", ["x", "y"])), ([(0, "", "\n"), (0, "", "x"), (2, "", "y")], 0))

    def test_rows_shorter_than_the_column(self):
        self.assertEqual(
            laid("abcd\ne\n\nfghi", 3, ("block", ["w", "x", "y", "z"])),
            ([(3, "", "w"), (7, "", "  x"), (11, "", "   y"), (19, "", "z")], 3),
        )
        self.assertEqual(laid("abc\nd", 3, ("block", ["x", "y"])), ([(3, "", "x"), (6, "", "  y")], 3))

    def test_a_row_just_as_long_as_the_column_gets_no_blanks(self):
        self.assertEqual(laid("ab\ncd", 2, ("block", ["x", "y"])), ([(2, "", "x"), (6, "", "y")], 2))

    def test_a_splice_that_would_put_nothing_is_left_out(self):
        self.assertEqual(laid("ab\ncd", 1, ("block", [""])), ([], 1))
        self.assertEqual(laid("ab\ncd", 1, ("block", ["", ""]), 3), ([], 1))
        self.assertEqual(laid("ab", 0, ("block", ["", ""])), ([(2, "", "\n")], 0))

    def test_blanks_come_also_where_there_is_no_sign_behind_them(self):
        self.assertEqual(laid("ab\nc", 2, ("block", ["", ""])), ([(4, "", " ")], 2))
        self.assertEqual(laid("ab", 2, ("block", ["", ""])), ([(2, "", "\n"), (3, "", "  ")], 2))

    def test_up_to_600_signs(self):
        text = "a" * 590
        self.assert_leads(text, laid(text, 0, ("block", ["xyz", "x"]), 1)[0], "xyz" + text + "\nx  ")
        self.assertIsNone(laid(text, 0, ("block", ["vwxyz", "x"]), 1))
        self.assertIsNone(laid(text, 10, ("block", ["", ""]), 1))
        self.assert_leads(text, laid(text, 9, ("block", ["", ""]), 1)[0], text + "\n" + " " * 9)
        self.assertIsNone(laid(text, 10, ("block", ["x"]), 11))
        self.assertIsNotNone(laid(text, 10, ("block", ["x"]), 10))
        self.assertIsNotNone(laid("", 0, ("block", [""] * 601)))
        self.assertIsNone(laid("", 0, ("block", [""] * 602)))
        self.assertIsNone(laid("", 0, ("block", ["x" * 100] * 5), 999))

    def test_what_was_cut_is_laid_back(self):
        text = "abcd\nefgh\nijkl"
        splices, place, held = done("C", text, (3, 11, "block"))
        cut = "ad\neh\nil"
        self.assert_leads(text, splices, cut)
        self.assertEqual(place, 1)
        self.assert_leads(cut, laid(cut, place, held)[0], text)


class Unlaid(unittest.TestCase):
    def test_a_shelf_with_a_tilde(self):
        for held in (
            ("signs", ["~"]), ("signs", ["Tab~"]), ("rows", ["~\n"]), ("block", ["~"]), ("block", ["a", "b~", "c"]),
            ("block", ["~", "a"]), ("block", ["a", "~"]),
        ):
            for count in (1, 3):
                self.assertIsNone(laid("abc\nd", 1, held, count))


class OwnLists(unittest.TestCase):
    def test_what_is_handed_in_stays_as_it_was(self):
        for held in HELD:
            handed = copy.deepcopy(held)
            for place in range(5):
                laid("ab\nc", place, handed, 2)
                self.assertEqual(handed, held)

    def test_each_list_is_the_askers_own(self):
        asks = [lambda: typed_in("ab\nc", 1, "x", 2), lambda: put_over("ab\nc", 0, "x", 2)]
        asks += [lambda held=held: laid("ab\nc", 1, held, 2) for held in HELD]
        for ask in asks:
            first = ask()
            wanted = copy.deepcopy(first)
            self.assertIs(type(first[0]), list)
            first[0].append("more")
            first[0][0] = "other"
            self.assertEqual(ask(), wanted)

    def test_changing_the_shelf_later_changes_nothing_told(self):
        held = ("block", ["x", "yz"])
        told = laid("ab\nc", 1, held)
        wanted = copy.deepcopy(told)
        held[1][0] = "other"
        held[1].append("more")
        self.assertEqual(told, wanted)

    def test_what_stretches_give_can_be_laid(self):
        text = "ab\nc\n\ndef"
        for one in stretches(text):
            held = shelved(text, one)
            wanted = copy.deepcopy(held)
            self.assertIsNotNone(laid(text, one[0], held, 2))
            self.assertEqual(held, wanted)


if __name__ == "__main__":
    unittest.main()
