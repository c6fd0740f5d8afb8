import copy
import itertools
import unittest

from helper import Refusing, Walked, long_texts, mixed_texts, pieces_of, small_texts, stretches
from modehand.things import move_stretch, stretch
from modehand.verbs import done, rows_in, shelved

VERBS = "CYXGSDFJ"
SHELVING = "CYX"
GREAT = dict(zip("abcdefghijklmnopqrstuvwxyz", "ABCDEFGHIJKLMNOPQRSTUVWXYZ"))
SMALL = {great: small for small, great in GREAT.items()}
BLOCK = "abcd\nefgh\nijkl"


class Told(Walked):
    """What the verbs do to a text, as points 17 to 19 tell it."""

    def rows_in(self, one):
        low, high, kind = one
        return (self.places[low][0], self.places[high - 1 if kind == "rows" and high > low else high][0])

    def shelved(self, one):
        texts = [self.text[low:high] for low, high in pieces_of(self.text, one)]
        if one[2] == "rows" and texts[0][-1:] != "\n":
            texts[0] += "\n"
        return (one[2], texts)

    def with_pieces(self, one, change):
        """The splices that change each piece, and the text that this leads to."""
        splices = []
        signs = list(self.text) + [""]
        for low, high in pieces_of(self.text, one):
            put = change(self.text[low:high])
            splices.insert(0, (low, self.text[low:high], put))
            rest = signs[high] if low == high else ""
            signs[low:high] = [""] * (high - low)
            signs[low] = put + rest
        return splices, "".join(signs)

    def exchanged(self, one, typed):
        low, high, kind = one
        stays = kind == "rows" and low < high and self.text[high - 1] == "\n"
        return self.with_pieces((low, high - 1, kind) if stays else one, lambda signs: typed)

    def with_rows(self, one, change):
        """The splices that put something else at the begin of rows, and the text that this leads to."""
        first, last = self.rows_in(one)
        splices = []
        rows = self.text.split("\n")
        for number in range(first, last + 1):
            out, put = change(rows[number])
            splices.insert(0, (self.bounds[number][0], out, put))
            rows[number] = put + rows[number][len(out):]
        return splices, "\n".join(rows)

    def joined(self, one):
        first, last = self.rows_in(one)
        rows = self.text.split("\n")
        last = first + 1 if first == last else last
        if last == len(rows):
            return None
        splices = []
        tail = rows[last]
        for number in range(last - 1, first - 1, -1):
            bare = tail.lstrip(" ")
            splices.append((self.bounds[number][1], "\n" + tail[:len(tail) - len(bare)], " "))
            tail = rows[number] + " " + bare
        return splices, "\n".join(rows[:first] + [tail] + rows[last + 1:]), self.bounds[first][1]

    def done(self, key, one, typed):
        """A tuple (splices, text, place, shelf), or None where the rows can't be joined."""
        place = pieces_of(self.text, one)[0][0]
        begin = self.bounds[self.rows_in(one)[0]][0]
        shelf = self.shelved(one) if key in SHELVING else None
        if key == "C":
            return (*self.with_pieces(one, lambda signs: ""), place, shelf)
        if key == "Y":
            return [], self.text, place, shelf
        if key == "X":
            return (*self.exchanged(one, typed), place + len(typed), shelf)
        if key in "GS":
            letters = str.maketrans({"G": GREAT, "S": SMALL}[key])
            return (*self.with_pieces(one, lambda signs: signs.translate(letters)), place, None)
        if key == "D":
            return (*self.with_rows(one, lambda row: ("", "  " if row else "")), begin, None)
        if key == "F":
            return (*self.with_rows(one, lambda row: (row[:2][:len(row) - len(row.lstrip(" "))], "")), begin, None)
        joined = self.joined(one)
        return None if joined is None else (*joined, None)


class AsTold(Refusing, unittest.TestCase):
    def assert_done(self, told, key, one, typed):
        wanted = told.done(key, one, typed)
        found = done(key, told.text, one, typed)
        asked = (key, told.text, one, typed)
        if wanted is None or len(wanted[1]) > 600:
            self.assertIsNone(found, asked)
            return
        self.assertIs(type(found), tuple)
        splices = [splice for splice in wanted[0] if splice[1] != splice[2]]
        self.assertEqual(found, (splices, wanted[2], wanted[3]), asked)
        self.assert_whole(found[1])
        self.assert_leads(told.text, found[0], wanted[1])

    def assert_all_done(self, text, step, typings):
        told = Told(text)
        for one in stretches(text, step):
            self.assertEqual(shelved(text, one), told.shelved(one))
            self.assertEqual(rows_in(text, one), told.rows_in(one))
            for key in VERBS:
                for typed in typings if key == "X" else [""]:
                    self.assert_done(told, key, one, typed)

    def test_small_texts(self):
        for text in itertools.chain(small_texts(5), small_texts(4, "a \n"), small_texts(4, "aB\n")):
            self.assert_all_done(text, 1, ["", "a", "x\ny"])
        for text in small_texts(6, " \n"):
            self.assert_all_done(text, 2, ["", " "])

    def test_mixed_and_long_texts(self):
        for text in itertools.chain(mixed_texts(), long_texts()):
            self.assert_all_done(text, max(5, len(text) // 6), ["", "new", "of\nrows\n"])


class Shelved(unittest.TestCase):
    def test_by_signs(self):
        self.assertEqual(shelved("ab\ncd", (1, 4, "signs")), ("signs", ["b\nc"]))
        self.assertEqual(shelved("ab\ncd", (0, 5, "signs")), ("signs", ["ab\ncd"]))
        self.assertEqual(shelved("ab\ncd", (2, 2, "signs")), ("signs", [""]))
        self.assertEqual(shelved("", (0, 0, "signs")), ("signs", [""]))

    def test_by_rows_a_line_feed_ends_it(self):
        self.assertEqual(shelved("ab\ncd", (0, 3, "rows")), ("rows", ["ab\n"]))
        self.assertEqual(shelved("ab\ncd", (3, 5, "rows")), ("rows", ["cd\n"]))
        self.assertEqual(shelved("ab\ncd", (0, 5, "rows")), ("rows", ["ab\ncd\n"]))
        self.assertEqual(shelved("ab\n\n", (0, 4, "rows")), ("rows", ["ab\n\n"]))

    def test_by_rows_without_a_sign(self):
        self.assertEqual(shelved("ab\n", (3, 3, "rows")), ("rows", ["\n"]))
        self.assertEqual(shelved("", (0, 0, "rows")), ("rows", ["\n"]))

    def test_of_a_block(self):
        self.assertEqual(shelved(BLOCK, (1, 13, "block")), ("block", ["bc", "fg", "jk"]))
        self.assertEqual(shelved(BLOCK, (3, 11, "block")), ("block", ["bc", "fg", "jk"]))
        self.assertEqual(shelved("abcd\ne\n\nfghi", (1, 11, "block")), ("block", ["bc", "", "", "gh"]))
        self.assertEqual(shelved(BLOCK, (2, 2, "block")), ("block", [""]))

    def test_each_list_is_the_askers_own(self):
        for one in stretches("ab\ncd\n"):
            first = shelved("ab\ncd\n", one)
            wanted = copy.deepcopy(first)
            self.assertIs(type(first), tuple)
            self.assertIs(type(first[1]), list)
            first[1].append("more")
            first[1][0] = "other"
            self.assertEqual(shelved("ab\ncd\n", one), wanted)


class Rows(Refusing, unittest.TestCase):
    def test_from_low_to_high(self):
        self.assertEqual(rows_in("a\nb\nc", (0, 5, "signs")), (0, 2))
        self.assertEqual(rows_in("a\nb\nc", (1, 2, "signs")), (0, 1))
        self.assertEqual(rows_in("a\nb\nc", (1, 2, "block")), (0, 1))
        self.assertEqual(rows_in("a\nb\nc", (2, 3, "signs")), (1, 1))

    def test_by_rows_up_to_the_line_feed(self):
        self.assertEqual(rows_in("a\nb\nc", (0, 2, "rows")), (0, 0))
        self.assertEqual(rows_in("a\nb\nc", (0, 4, "rows")), (0, 1))
        self.assertEqual(rows_in("a\nb\nc", (2, 5, "rows")), (1, 2))
        self.assertEqual(rows_in("a\n\n", (0, 3, "rows")), (0, 1))

    def test_by_rows_where_low_is_high(self):
        self.assertEqual(rows_in("a\nb\n", (4, 4, "rows")), (2, 2))
        self.assertEqual(rows_in("a\nb", (2, 2, "rows")), (1, 1))
        self.assertEqual(rows_in("", (0, 0, "rows")), (0, 0))

    def test_a_pair_of_whole_numbers(self):
        for one in stretches("a\n\nb"):
            told = rows_in("a\n\nb", one)
            self.assertIs(type(told), tuple)
            self.assertEqual(len(told), 2)
            for row in told:
                self.assert_whole(row)


class CutAndCopy(unittest.TestCase):
    def test_by_signs(self):
        self.assertEqual(done("C", "abcd", (1, 3, "signs")), ([(1, "bc", "")], 1, ("signs", ["bc"])))
        self.assertEqual(done("C", "abcd", (0, 4, "signs")), ([(0, "abcd", "")], 0, ("signs", ["abcd"])))
        self.assertEqual(done("C", "a\nb", (1, 2, "signs")), ([(1, "\n", "")], 1, ("signs", ["\n"])))

    def test_by_rows(self):
        self.assertEqual(done("C", "ab\ncd", (0, 3, "rows")), ([(0, "ab\n", "")], 0, ("rows", ["ab\n"])))
        self.assertEqual(done("C", "ab\ncd", (3, 5, "rows")), ([(3, "cd", "")], 3, ("rows", ["cd\n"])))

    def test_a_block_from_the_last_piece_to_the_first(self):
        cut = [(11, "jk", ""), (6, "fg", ""), (1, "bc", "")]
        self.assertEqual(done("C", BLOCK, (1, 13, "block")), (cut, 1, ("block", ["bc", "fg", "jk"])))
        self.assertEqual(done("C", BLOCK, (3, 11, "block")), (cut, 1, ("block", ["bc", "fg", "jk"])))

    def test_pieces_without_signs_have_no_splice(self):
        self.assertEqual(done("C", "abcd", (2, 2, "signs")), ([], 2, ("signs", [""])))
        self.assertEqual(done("C", "ab\n", (3, 3, "rows")), ([], 3, ("rows", ["\n"])))
        self.assertEqual(done("C", "", (0, 0, "block")), ([], 0, ("block", [""])))
        self.assertEqual(
            done("C", "abcd\ne\nfghi", (2, 11, "block")),
            ([(9, "hi", ""), (2, "cd", "")], 2, ("block", ["cd", "", "hi"])),
        )

    def test_copy_has_no_splices(self):
        self.assertEqual(done("Y", "abcd", (1, 3, "signs")), ([], 1, ("signs", ["bc"])))
        self.assertEqual(done("Y", "ab\ncd", (3, 5, "rows")), ([], 3, ("rows", ["cd\n"])))
        self.assertEqual(done("Y", BLOCK, (3, 11, "block")), ([], 1, ("block", ["bc", "fg", "jk"])))

    def test_of_moves_and_things(self):
        text = "go (to) end"
        self.assertEqual(done("C", text, move_stretch("w", text, 0)), ([(0, "go (", "")], 0, ("signs", ["go ("])))
        self.assertEqual(done("C", text, move_stretch("h", text, 5)), ([(4, "t", "")], 4, ("signs", ["t"])))
        self.assertEqual(done("C", text, stretch(")", text, 5)), ([(3, "(to)", "")], 3, ("signs", ["(to)"])))


class Exchange(unittest.TestCase):
    def test_by_signs(self):
        self.assertEqual(done("X", "abcd", (1, 3, "signs"), "xyz"), ([(1, "bc", "xyz")], 4, ("signs", ["bc"])))
        self.assertEqual(done("X", "abcd", (2, 2, "signs"), "\n"), ([(2, "", "\n")], 3, ("signs", [""])))
        self.assertEqual(done("X", "", (0, 0, "signs"), "x"), ([(0, "", "x")], 1, ("signs", [""])))

    def test_no_typed_sign(self):
        self.assertEqual(done("X", "abcd", (1, 3, "signs"), ""), ([(1, "bc", "")], 1, ("signs", ["bc"])))
        self.assertEqual(done("X", "abcd", (1, 3, "signs")), ([(1, "bc", "")], 1, ("signs", ["bc"])))
        self.assertEqual(done("X", "abcd", (2, 2, "signs"), ""), ([], 2, ("signs", [""])))
        self.assertEqual(done("X", "ab\ncd", (0, 3, "rows"), ""), ([(0, "ab", "")], 0, ("rows", ["ab\n"])))

    def test_by_rows_the_line_feed_stays(self):
        self.assertEqual(done("X", "ab\ncd", (0, 3, "rows"), "x"), ([(0, "ab", "x")], 1, ("rows", ["ab\n"])))
        self.assertEqual(done("X", "ab\ncd", (0, 5, "rows"), "x"), ([(0, "ab\ncd", "x")], 1, ("rows", ["ab\ncd\n"])))
        self.assertEqual(done("X", "ab\n\n", (0, 4, "rows"), "x"), ([(0, "ab\n", "x")], 1, ("rows", ["ab\n\n"])))
        self.assertEqual(done("X", "\na", (0, 1, "rows"), "x"), ([(0, "", "x")], 1, ("rows", ["\n"])))
        self.assertEqual(done("X", "\na", (0, 1, "rows"), ""), ([], 0, ("rows", ["\n"])))
        self.assertEqual(done("X", "a\n", (2, 2, "rows"), "x"), ([(2, "", "x")], 3, ("rows", ["\n"])))

    def test_by_signs_the_line_feed_goes(self):
        self.assertEqual(done("X", "ab\ncd", (0, 3, "signs"), "x"), ([(0, "ab\n", "x")], 1, ("signs", ["ab\n"])))

    def test_a_block_has_it_in_each_row(self):
        self.assertEqual(
            done("X", "abcd\ne\nfghi", (2, 11, "block"), "xyz"),
            ([(9, "hi", "xyz"), (6, "", "xyz"), (2, "cd", "xyz")], 5, ("block", ["cd", "", "hi"])),
        )

    def test_the_same_again_is_left_out(self):
        self.assertEqual(done("X", "abcd", (1, 3, "signs"), "bc"), ([], 3, ("signs", ["bc"])))
        self.assertEqual(done("X", "ab\n", (0, 3, "rows"), "ab"), ([], 2, ("rows", ["ab\n"])))
        self.assertEqual(
            done("X", "ab\ncb", (1, 5, "block"), "b"), ([], 2, ("block", ["b", "b"])),
        )
        self.assertEqual(
            done("X", "ab\ncd", (1, 5, "block"), "b"), ([(4, "d", "b")], 2, ("block", ["b", "d"])),
        )


class Letters(unittest.TestCase):
    def test_great_and_small(self):
        self.assertEqual(done("G", "abCd", (1, 4, "signs")), ([(1, "bCd", "BCD")], 1, None))
        self.assertEqual(done("S", "ABcD", (1, 4, "signs")), ([(1, "BcD", "bcd")], 1, None))
        self.assertEqual(done("G", "ab\ncd", (0, 3, "rows")), ([(0, "ab\n", "AB\n")], 0, None))
        self.assertEqual(done("G", BLOCK, (3, 11, "block"))[0], [(11, "jk", "JK"), (6, "fg", "FG"), (1, "bc", "BC")])

    def test_every_letter_and_no_other_sign(self):
        signs = "".join(chr(code) for code in range(32, 126) if chr(code) != "%")
        for key, letters in (("G", GREAT), ("S", SMALL)):
            for number, sign in enumerate(signs):
                wanted = [(number, sign, letters[sign])] if sign in letters else []
                self.assertEqual(done(key, signs, (number, number + 1, "signs")), (wanted, number, None))

    def test_nothing_to_change(self):
        self.assertEqual(done("G", "AB 12[\n]", (0, 8, "signs")), ([], 0, None))
        self.assertEqual(done("S", "ab 12{\n}", (0, 8, "signs")), ([], 0, None))
        self.assertEqual(done("G", "ab", (1, 1, "signs")), ([], 1, None))
        self.assertEqual(done("G", "aB\ncd", (1, 5, "block")), ([(4, "d", "D")], 1, None))


class DeeperAndFlatter(unittest.TestCase):
    def test_deeper(self):
        self.assertEqual(done("D", "a\nb", (0, 3, "signs")), ([(2, "", "  "), (0, "", "  ")], 0, None))
        self.assertEqual(done("D", "a\nb", (0, 2, "rows")), ([(0, "", "  ")], 0, None))
        self.assertEqual(done("D", "a\nb", (1, 2, "block")), ([(2, "", "  "), (0, "", "  ")], 0, None))
        self.assertEqual(done("D", "ab\ncd", (4, 4, "signs")), ([(3, "", "  ")], 3, None))

    def test_rows_without_signs_get_no_deeper(self):
        self.assertEqual(done("D", "a\n\nb", (0, 4, "signs")), ([(3, "", "  "), (0, "", "  ")], 0, None))
        self.assertEqual(done("D", "", (0, 0, "signs")), ([], 0, None))
        self.assertEqual(done("D", "a\n", (2, 2, "rows")), ([], 2, None))
        self.assertEqual(done("D", " ", (0, 1, "rows")), ([(0, "", "  ")], 0, None))

    def test_flatter_by_up_to_two_blanks(self):
        self.assertEqual(done("F", "a", (0, 1, "signs")), ([], 0, None))
        self.assertEqual(done("F", " a", (0, 2, "signs")), ([(0, " ", "")], 0, None))
        self.assertEqual(done("F", "  a", (0, 3, "signs")), ([(0, "  ", "")], 0, None))
        self.assertEqual(done("F", "   a", (0, 4, "signs")), ([(0, "  ", "")], 0, None))

    def test_flatter_rows(self):
        self.assertEqual(
            done("F", "x\n a\n\n   b\n", (3, 10, "rows")), ([(6, "  ", ""), (2, " ", "")], 2, None),
        )
        self.assertEqual(done("F", " \n ", (0, 3, "signs")), ([(2, " ", ""), (0, " ", "")], 0, None))
        self.assertEqual(done("F", "a  b", (0, 4, "signs")), ([], 0, None))

    def test_the_hand_comes_to_the_first_rows_begin(self):
        for key in "DF":
            self.assertEqual(done(key, "ab\n  cd\nef", (6, 9, "signs"))[1], 3)
            self.assertEqual(done(key, "ab\n  cd\nef", (1, 6, "block"))[1], 0)


class Join(unittest.TestCase):
    def test_one_row_with_the_row_behind(self):
        self.assertEqual(done("J", "ab\ncd\nef", (0, 1, "signs")), ([(2, "\n", " ")], 2, None))
        self.assertEqual(done("J", "ab\ncd\nef", (0, 3, "rows")), ([(2, "\n", " ")], 2, None))
        self.assertEqual(done("J", "ab\ncd\nef", (4, 4, "block")), ([(5, "\n", " ")], 5, None))

    def test_several_rows_from_the_last_to_the_first(self):
        self.assertEqual(done("J", "ab\ncd\nef", (0, 8, "signs")), ([(5, "\n", " "), (2, "\n", " ")], 2, None))
        self.assertEqual(done("J", "ab\ncd\nef", (0, 6, "rows")), ([(2, "\n", " ")], 2, None))
        self.assertEqual(done("J", "ab\ncd\nef", (1, 4, "block")), ([(2, "\n", " ")], 2, None))

    def test_blanks_behind_the_line_feed(self):
        self.assertEqual(done("J", "ab\n   cd", (0, 0, "signs")), ([(2, "\n   ", " ")], 2, None))
        self.assertEqual(done("J", "ab  \n  ", (0, 0, "signs")), ([(4, "\n  ", " ")], 4, None))

    def test_blanks_that_come_by_joining(self):
        self.assertEqual(done("J", "a\n\nb", (0, 4, "signs")), ([(2, "\n", " "), (1, "\n ", " ")], 1, None))
        self.assertEqual(
            done("J", "a\n  \n b", (0, 7, "signs")), ([(4, "\n ", " "), (1, "\n   ", " ")], 1, None),
        )

    def test_the_last_row_alone_cannot_be_joined(self):
        self.assertIsNone(done("J", "", (0, 0, "signs")))
        self.assertIsNone(done("J", "ab", (0, 2, "signs")))
        self.assertIsNone(done("J", "ab\ncd", (3, 5, "rows")))
        self.assertIsNone(done("J", "ab\n", (3, 3, "rows")))
        self.assertIsNone(done("J", "ab\ncd", (4, 5, "block")))

    def test_the_last_row_with_one_ahead(self):
        self.assertEqual(done("J", "ab\ncd", (1, 5, "signs")), ([(2, "\n", " ")], 2, None))
        self.assertEqual(done("J", "ab\n", (0, 3, "signs")), ([(2, "\n", " ")], 2, None))


class Bound(Refusing, unittest.TestCase):
    def test_exchange_up_to_600_signs(self):
        text = "a" * 590
        self.assert_leads(text, done("X", text, (5, 5, "signs"), "x" * 10)[0], "a" * 5 + "x" * 10 + "a" * 585)
        self.assertIsNone(done("X", text, (5, 5, "signs"), "x" * 11))
        self.assertIsNotNone(done("X", text, (5, 6, "signs"), "x" * 11))
        self.assertIsNone(done("X", "ab\n" + "c" * 597, (0, 3, "rows"), "xyz"))
        self.assertIsNotNone(done("X", "ab\n" + "c" * 597, (0, 3, "rows"), "xy"))

    def test_deeper_up_to_600_signs(self):
        self.assertEqual(done("D", "a" * 598, (0, 0, "signs")), ([(0, "", "  ")], 0, None))
        self.assertIsNone(done("D", "a" * 599, (0, 0, "signs")))
        self.assertIsNone(done("D", "a" * 600, (0, 0, "signs")))
        self.assertIsNone(done("D", "a\n" + "b" * 595, (0, 9, "signs")))
        self.assertIsNotNone(done("D", "a\n" + "b" * 594, (0, 9, "signs")))

    def test_text_of_600_signs_that_does_not_grow(self):
        text = "a" * 299 + "\n" + "b" * 300
        for key in "CYGSFJ":
            self.assertIsNotNone(done(key, text, (0, 600, "signs")))
        self.assertIsNotNone(done("X", text, (0, 3, "signs"), "xyz"))
        self.assertIsNone(done("X", text, (0, 3, "signs"), "wxyz"))
        self.assertEqual(done("D", "\n" * 600, (0, 600, "rows")), ([], 0, None))

    def test_only_what_lies_behind_all_splices_counts(self):
        text = "a" * 299 + "\nb\n" + "c" * 298
        splices, place, held = done("X", text, (299, 301, "block"), "zz")
        self.assertEqual(splices, [(301, "", "zz"), (1, "a" * 298, "zz")])
        self.assert_leads(text, splices, "azz\nbzz\n" + "c" * 298)


class Kinds(Refusing, unittest.TestCase):
    def test_what_is_told(self):
        for key in VERBS:
            for one in stretches("aB\n  c\n\nd"):
                told = done(key, "aB\n  c\n\nd", one, "x")
                if told is not None:
                    splices, place, held = told
                    self.assertIs(type(splices), list)
                    self.assert_whole(place)
                    self.assertEqual(held is None, key not in SHELVING)
                    if held is not None:
                        self.assertEqual(held, shelved("aB\n  c\n\nd", one))

    def test_what_is_typed_counts_for_exchange_alone(self):
        text = "aB\n  c\n\nd"
        for key in "CYGSDFJ":
            for one in stretches(text):
                self.assertEqual(done(key, text, one, "xyz"), done(key, text, one))

    def test_each_list_is_the_askers_own(self):
        text = "aB\n  c\n\nd"
        for key in VERBS:
            for one in stretches(text):
                first = done(key, text, one, "x")
                wanted = copy.deepcopy(first)
                if first is not None:
                    first[0].append("more")
                    first[0][0] = "other"
                    if first[2] is not None:
                        first[2][1].append("more")
                        first[2][1][0] = "other"
                self.assertEqual(done(key, text, one, "x"), wanted)


if __name__ == "__main__":
    unittest.main()
