"""The tree of the undone (points 25 to 27 of the document)."""

from modehand.errors import NoState
from modehand.rows import is_whole
from modehand.splices import all_spliced, way_back


# Of each state, by its number: its text, its elder, its splices, and its places ahead of them and behind them.
class Tree:
    def __init__(self, text, place):
        self.known = [(text, None, (), (place, place))]
        self.youngest = {}
        self.present = 0

    def check(self, number):
        if not is_whole(number) or not 0 <= number < len(self.known):
            raise NoState(number)

    def here(self):
        return self.present

    def many(self):
        return len(self.known)

    def text_of(self, number):
        self.check(number)
        return self.known[number][0]

    def elder_of(self, number):
        self.check(number)
        return self.known[number][1]

    def splices_of(self, number):
        self.check(number)
        return list(self.known[number][2])

    def places_of(self, number):
        self.check(number)
        return self.known[number][3]

    # The text comes first: where the splices don't fit, nothing has changed yet.
    def grow(self, splices, ahead, behind):
        text = all_spliced(self.text_of(self.present), splices)
        self.known.append((text, self.present, tuple(splices), (ahead, behind)))
        self.youngest[self.present] = len(self.known) - 1
        self.present = len(self.known) - 1
        return self.present

    def undone(self):
        elder = self.elder_of(self.present)
        if elder is None:
            raise NoState(None)
        place = self.places_of(self.present)[0]
        self.present = elder
        return place

    def done(self):
        if self.present not in self.youngest:
            raise NoState(None)
        return self.to(self.youngest[self.present])

    def to(self, number):
        self.check(number)
        self.present = number
        return self.places_of(number)[1]

    # An elder's number is below its state's, so the greater of two unlike numbers is none that both come from.
    def way(self, one, other):
        self.check(one)
        self.check(other)
        splices = []
        downwards = []
        while one != other:
            if one > other:
                splices.extend(way_back(self.splices_of(one)))
                one = self.elder_of(one)
            else:
                downwards.append(other)
                other = self.elder_of(other)
        for number in reversed(downwards):
            splices.extend(self.splices_of(number))
        return splices
