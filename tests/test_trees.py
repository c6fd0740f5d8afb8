import random
import unittest

from helper import Refusing, long_texts, wrong_numbers
from modehand.errors import NoFit, NoState
from modehand.trees import Tree

MANY = 20000


def applied(text, splices):
    for at, out, put in splices:
        text = text[:at] + put + text[at + len(out):]
    return text


class Told:
    """A tree as points 25 to 27 tell it, kept as a list of states."""

    def __init__(self, text, place):
        self.states = [(text, None, [], place, place)]
        self.here = 0

    def grow(self, splices, ahead, behind):
        text = applied(self.states[self.here][0], splices)
        self.states.append((text, self.here, list(splices), ahead, behind))
        self.here = len(self.states) - 1
        return self.here

    def undone(self):
        text, elder, splices, ahead, behind = self.states[self.here]
        self.here = elder
        return None if elder is None else ahead

    def done(self):
        younger = [number for number, state in enumerate(self.states) if state[1] == self.here]
        return self.to(younger[-1]) if younger else None

    def to(self, number):
        self.here = number
        return self.states[number][4]

    def elders(self, number):
        """The state itself, its elder, that one's elder, and so on."""
        found = []
        while number is not None:
            found.append(number)
            number = self.states[number][1]
        return found

    def way(self, one, other):
        up, down = self.elders(one), self.elders(other)
        both = max(set(up) & set(down))
        way = [(at, put, out) for number in up[:up.index(both)] for at, out, put in self.states[number][2][::-1]]
        for number in down[:down.index(both)][::-1]:
            way += self.states[number][2]
        return way


def branching():
    """State 0 has the younger ones 1 and 4; 2 and 3 come from 1, one behind the other; 5 from 4."""
    tree = Tree("abc", 1)
    tree.grow([(3, "", "d")], 1, 4)
    tree.grow([(0, "a", "x"), (1, "b", "y")], 4, 2)
    tree.grow([(4, "", "\n")], 2, 5)
    tree.to(0)
    tree.grow([(0, "abc", "")], 0, 3)
    tree.grow([(0, "", "n"), (1, "", "ew")], 3, 0)
    return tree


class Grown(Refusing, unittest.TestCase):
    def test_a_new_tree(self):
        tree = Tree("a\nb", 2)
        self.assertEqual((tree.here(), tree.many()), (0, 1))
        self.assertEqual(tree.text_of(0), "a\nb")
        self.assertEqual(tree.splices_of(0), [])
        self.assertEqual(tree.places_of(0), (2, 2))
        self.assertIsNone(tree.elder_of(0))
        self.assertEqual(tree.way(0, 0), [])

    def test_states_come_in_their_order(self):
        tree = Tree("a", 0)
        self.assertEqual(tree.grow([(1, "", "b")], 0, 2), 1)
        self.assertEqual((tree.here(), tree.many()), (1, 2))
        self.assertEqual(tree.grow([(0, "a", ""), (1, "", "c")], 2, 1), 2)
        self.assertEqual((tree.here(), tree.many()), (2, 3))
        self.assertEqual([tree.text_of(number) for number in range(3)], ["a", "ab", "bc"])
        self.assertEqual([tree.elder_of(number) for number in range(3)], [None, 0, 1])
        self.assertEqual([tree.places_of(number) for number in range(3)], [(0, 0), (0, 2), (2, 1)])
        self.assertEqual(tree.splices_of(1), [(1, "", "b")])
        self.assertEqual(tree.splices_of(2), [(0, "a", ""), (1, "", "c")])

    def test_branches(self):
        tree = branching()
        self.assertEqual(tree.many(), 6)
        self.assertEqual(tree.here(), 5)
        self.assertEqual([tree.elder_of(number) for number in range(6)], [None, 0, 1, 2, 0, 4])
        self.assertEqual([tree.text_of(number) for number in range(6)], ["abc", "abcd", "xycd", "xycd\n", "", "new"])

    def test_a_state_without_splices(self):
        tree = Tree("abc", 0)
        self.assertEqual(tree.grow([], 1, 2), 1)
        self.assertEqual((tree.here(), tree.many(), tree.elder_of(1)), (1, 2, 0))
        self.assertEqual((tree.text_of(1), tree.splices_of(1), tree.places_of(1)), ("abc", [], (1, 2)))
        self.assertEqual((tree.way(0, 1), tree.way(1, 0)), ([], []))
        self.assertEqual(tree.undone(), 1)
        self.assertEqual(tree.done(), 2)

    def test_long_texts(self):
        for text in long_texts():
            tree = Tree(text, len(text))
            tree.grow([(0, text, ""), (0, "", "z" * 600)], 0, 600)
            self.assertEqual(tree.text_of(0), text)
            self.assertEqual(tree.text_of(1), "z" * 600)
            self.assertEqual(applied("z" * 600, tree.way(1, 0)), text)

    def test_trees_have_nothing_in_common(self):
        one, other = Tree("a", 0), Tree("b", 1)
        one.grow([(1, "", "c")], 0, 2)
        self.assertEqual((other.many(), other.here(), other.text_of(0)), (1, 0, "b"))
        self.assert_refused(NoState, other.text_of, 1)
        self.assert_refused(NoState, other.done)


class Unfitting(Refusing, unittest.TestCase):
    def assert_unchanged(self, tree, told):
        self.assertEqual((tree.many(), tree.here()), told[:2])
        self.assertEqual([tree.text_of(number) for number in range(tree.many())], told[2])
        self.assert_refused(NoState, tree.text_of, tree.many())

    def test_splices_that_do_not_lead_on(self):
        for splices in (
            [(0, "b", "")], [(0, "abcd", "")], [(4, "", "x")], [(-1, "", "x")], [(3, "c", "")], [(2, "cd", "")],
            [(0, "a", "x"), (0, "a", "y")], [(0, "", "x"), (0, "x", "y"), (9, "", "z"), (0, "y", "x")],
            [(0, "abc", ""), (1, "", "x")], [(0, "a", ""), (2, "c", "d")],
        ):
            tree = Tree("abc", 1)
            self.assert_refused(NoFit, tree.grow, splices, 1, 1)
            self.assert_unchanged(tree, (1, 0, ["abc"]))
            self.assert_refused(NoState, tree.done)
            self.assertEqual(tree.grow([(3, "", "d")], 1, 2), 1)
            self.assertEqual(tree.text_of(1), "abcd")

    def test_in_a_tree_that_has_grown(self):
        tree = branching()
        told = (6, 5, ["abc", "abcd", "xycd", "xycd\n", "", "new"])
        self.assert_refused(NoFit, tree.grow, [(0, "n", "N"), (1, "x", "")], 0, 0)
        self.assert_unchanged(tree, told)
        tree.to(1)
        self.assert_refused(NoFit, tree.grow, [(4, "", "e"), (0, "new", "")], 0, 0)
        self.assert_unchanged(tree, (6, 1, told[2]))
        self.assertEqual(tree.done(), 2)
        self.assertEqual(tree.here(), 2)

    def test_the_present_text_counts_and_no_other(self):
        tree = Tree("a", 0)
        tree.grow([(0, "a", "b")], 0, 0)
        self.assert_refused(NoFit, tree.grow, [(0, "a", "c")], 0, 0)
        tree.undone()
        self.assert_refused(NoFit, tree.grow, [(0, "b", "c")], 0, 0)
        self.assertEqual(tree.grow([(0, "a", "c")], 0, 0), 2)


class UndoneAndDone(Refusing, unittest.TestCase):
    def test_places_to_which_the_hand_comes(self):
        tree = Tree("a", 1)
        tree.grow([(1, "", "b")], 5, 6)
        tree.grow([(2, "", "c")], 7, 8)
        self.assertEqual((tree.undone(), tree.here()), (7, 1))
        self.assertEqual((tree.undone(), tree.here()), (5, 0))
        self.assertEqual((tree.done(), tree.here()), (6, 1))
        self.assertEqual((tree.done(), tree.here()), (8, 2))
        self.assertEqual(tree.many(), 3)

    def test_done_again_leads_to_the_newest(self):
        tree = branching()
        self.assertEqual(tree.to(0), 1)
        self.assertEqual((tree.done(), tree.here()), (3, 4))
        self.assertEqual((tree.done(), tree.here()), (0, 5))
        tree.to(1)
        self.assertEqual((tree.done(), tree.here()), (2, 2))
        tree.to(0)
        tree.grow([], 1, 1)
        tree.undone()
        self.assertEqual((tree.done(), tree.here()), (1, 6))

    def test_the_newest_is_not_the_one_that_was_left(self):
        tree = branching()
        tree.to(1)
        self.assertEqual((tree.undone(), tree.here()), (1, 0))
        tree.done()
        self.assertEqual(tree.here(), 4)

    def test_to_a_number(self):
        tree = branching()
        for number, place in ((3, 5), (0, 1), (5, 0), (5, 0), (2, 2), (1, 4), (4, 3)):
            self.assertEqual((tree.to(number), tree.here()), (place, number))
        self.assertEqual(tree.many(), 6)

    def test_undone_at_state_0(self):
        for tree in (Tree("", 0), branching()):
            tree.to(0)
            many = tree.many()
            for time in range(2):
                self.assertIsNone(self.assert_refused(NoState, tree.undone).number)
                self.assertEqual((tree.here(), tree.many()), (0, many))

    def test_done_again_where_there_is_nothing_newer(self):
        self.assertIsNone(self.assert_refused(NoState, Tree("", 0).done).number)
        tree = branching()
        for number in (3, 5):
            tree.to(number)
            self.assertIsNone(self.assert_refused(NoState, tree.done).number)
            self.assertEqual((tree.here(), tree.many()), (number, 6))


class Ways(unittest.TestCase):
    def test_on_one_branch(self):
        tree = branching()
        self.assertEqual(tree.way(0, 2), [(3, "", "d"), (0, "a", "x"), (1, "b", "y")])
        self.assertEqual(tree.way(2, 0), [(1, "y", "b"), (0, "x", "a"), (3, "d", "")])
        self.assertEqual(tree.way(1, 2), [(0, "a", "x"), (1, "b", "y")])
        self.assertEqual(tree.way(3, 2), [(4, "\n", "")])

    def test_on_two_branches(self):
        tree = branching()
        self.assertEqual(tree.way(1, 4), [(3, "d", ""), (0, "abc", "")])
        self.assertEqual(
            tree.way(5, 2),
            [(1, "ew", ""), (0, "n", ""), (0, "", "abc"), (3, "", "d"), (0, "a", "x"), (1, "b", "y")],
        )

    def test_only_up_to_the_nearest_elder(self):
        tree = branching()
        tree.to(2)
        tree.grow([(0, "x", "z")], 0, 0)
        self.assertEqual(tree.way(3, 6), [(4, "\n", ""), (0, "x", "z")])
        self.assertEqual(tree.way(6, 3), [(0, "z", "x"), (4, "", "\n")])

    def test_from_a_state_to_itself(self):
        tree = branching()
        for number in range(6):
            self.assertEqual(tree.way(number, number), [])

    def test_a_way_changes_nothing(self):
        tree = branching()
        tree.to(2)
        for one in range(6):
            for other in range(6):
                tree.way(one, other)
        self.assertEqual((tree.here(), tree.many()), (2, 6))


class NoStates(Refusing, unittest.TestCase):
    def test_numbers_below_0_and_beyond(self):
        tree = branching()
        tree.to(2)
        for number in wrong_numbers(0, 5):
            for ask in (tree.text_of, tree.splices_of, tree.places_of, tree.elder_of, tree.to):
                self.assertEqual(self.assert_refused(NoState, ask, number).number, number)
            for known in range(6):
                self.assertEqual(self.assert_refused(NoState, tree.way, number, known).number, number)
                self.assertEqual(self.assert_refused(NoState, tree.way, known, number).number, number)
            self.assertEqual((tree.here(), tree.many()), (2, 6))
            self.assertEqual(self.assert_refused(NoState, tree.way, number, number).number, number)

    def test_of_two_wrong_numbers_the_first_is_told(self):
        tree = branching()
        for one in wrong_numbers(0, 5):
            for other in wrong_numbers(0, 5):
                self.assertEqual(self.assert_refused(NoState, tree.way, one, other).number, one)


class AsTold(Refusing, unittest.TestCase):
    def some_splices(self, chance, text):
        splices = []
        for number in range(chance.choice((0, 1, 1, 2, 3))):
            at = chance.randrange(len(text) + 1)
            splice = (at, text[at:at + chance.randrange(4)], chance.choice(("", "a", "bc", "d\ne")))
            splices.append(splice)
            text = applied(text, [splice])
        return splices

    def play(self, chance, tree, told):
        deed = chance.choice(("grow", "grow", "undone", "undone", "done", "to"))
        if deed == "grow":
            splices = self.some_splices(chance, told.states[told.here][0])
            places = chance.randrange(601), chance.randrange(601)
            return tree.grow(splices, *places), told.grow(splices, *places)
        if deed == "to":
            number = chance.randrange(len(told.states))
            return tree.to(number), told.to(number)
        before = told.here
        wanted = told.undone() if deed == "undone" else told.done()
        ask = tree.undone if deed == "undone" else tree.done
        if wanted is None:
            told.here = before
            self.assert_refused(NoState, ask)
            return None, None
        return ask(), wanted

    def assert_same(self, tree, told):
        self.assertEqual(tree.many(), len(told.states))
        for number, (text, elder, splices, ahead, behind) in enumerate(told.states):
            self.assertEqual(tree.text_of(number), text)
            self.assertEqual(tree.elder_of(number), elder)
            self.assertEqual(tree.splices_of(number), splices)
            self.assertEqual(tree.places_of(number), (ahead, behind))

    def test_trees_of_all_shapes(self):
        for seed in range(40):
            chance = random.Random(seed)
            text = "abc\ndef"
            tree, told = Tree(text, 3), Told(text, 3)
            for time in range(60):
                found, wanted = self.play(chance, tree, told)
                self.assertEqual(found, wanted)
                self.assertEqual(tree.here(), told.here)
            self.assert_same(tree, told)
            for one in range(tree.many()):
                for other in range(tree.many()):
                    way = tree.way(one, other)
                    self.assertEqual(way, told.way(one, other))
                    self.assertEqual(applied(tree.text_of(one), way), tree.text_of(other))


class VeryMany(unittest.TestCase):
    def test_states_one_behind_the_other(self):
        tree = Tree("", 0)
        for number in range(MANY):
            self.assertEqual(tree.grow([(0, str(number or ""), str(number + 1))], number, number + 1), number + 1)
        self.assertEqual(tree.text_of(MANY), str(MANY))
        self.assertEqual(tree.text_of(MANY // 2), str(MANY // 2))
        self.assertEqual(len(tree.way(0, MANY)), MANY)
        self.assertEqual(applied("", tree.way(0, MANY)), str(MANY))
        self.assertEqual(applied(str(MANY), tree.way(MANY, 0)), "")
        for number in range(MANY, 0, -1):
            self.assertEqual(tree.undone(), number - 1)
        self.assertEqual(tree.here(), 0)
        for number in range(MANY):
            self.assertEqual(tree.done(), number + 1)
        self.assertEqual(tree.here(), MANY)

    def test_two_long_branches(self):
        tree = Tree("ab", 0)
        for sign in "cd":
            tree.to(0)
            for number in range(MANY):
                turn = (0, "ab", "ba") if number % 2 == 0 else (0, "ba", "ab")
                tree.grow([turn, (2, sign if number else "", sign)], 0, 0)
        way = tree.way(MANY, 2 * MANY)
        self.assertEqual(len(way), 4 * MANY)
        self.assertEqual((tree.text_of(MANY), tree.text_of(2 * MANY)), ("abc", "abd"))
        self.assertEqual(applied("abc", way), "abd")


class OwnLists(Refusing, unittest.TestCase):
    def test_what_is_handed_in_stays_and_may_change(self):
        tree = Tree("abc", 0)
        handed = [(0, "a", "x"), (1, "b", "y")]
        tree.grow(handed, 0, 0)
        self.assertEqual(handed, [(0, "a", "x"), (1, "b", "y")])
        handed.append((0, "x", "z"))
        handed[0] = "other"
        self.assertEqual(tree.splices_of(1), [(0, "a", "x"), (1, "b", "y")])
        self.assertEqual(tree.way(1, 0), [(1, "y", "b"), (0, "x", "a")])
        self.assertEqual(tree.text_of(1), "xyc")

    def test_what_is_told_is_the_askers_own(self):
        tree = branching()
        asks = [lambda number=number: tree.splices_of(number) for number in range(6)]
        asks += [lambda one=one, other=other: tree.way(one, other) for one in range(6) for other in range(6)]
        told = [ask() for ask in asks]
        wanted = [list(one) for one in told]
        for one in told:
            self.assertIs(type(one), list)
            one.append("more")
            one[0] = "other"
        self.assertEqual([ask() for ask in asks], wanted)

    def test_what_was_told_stays_when_the_tree_grows(self):
        tree = branching()
        told = tree.splices_of(5), tree.way(0, 5), tree.splices_of(0)
        wanted = [list(one) for one in told]
        tree.grow([(0, "new", "old")], 0, 0)
        tree.to(0)
        tree.grow([], 0, 0)
        self.assertEqual([list(one) for one in told], wanted)

    def test_kinds(self):
        tree = branching()
        numbers = [tree.here(), tree.many(), tree.elder_of(3), *tree.places_of(0), *tree.places_of(2)]
        for number in numbers + [tree.to(3), tree.undone(), tree.done(), tree.grow([], 0, 0)]:
            self.assert_whole(number)
        self.assertIs(type(tree.places_of(0)), tuple)
        self.assertIs(type(tree.places_of(2)), tuple)
        self.assertIs(type(tree.text_of(2)), str)
        for splice in tree.way(3, 5) + tree.splices_of(2):
            self.assertIs(type(splice), tuple)


if __name__ == "__main__":
    unittest.main()
