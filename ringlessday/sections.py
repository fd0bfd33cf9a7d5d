"""The sections of a track: plain ones, points and crossings."""

from ringlessday.errors import InvalidName, InvalidNumber
from ringlessday.names import is_name, is_number

SIDES_OF = {
    "none": (),
    "plain": ("a", "b"),
    "point": ("left", "right", "stem"),
    "crossing": ("a", "b", "c", "d"),
}
# Each row is a way that can be run in both directions, with the position that it needs.
WAYS_OF = {
    "none": (),
    "plain": (("a", "b", ""),),
    "point": (("left", "stem", "left"), ("right", "stem", "right")),
    "crossing": (("a", "b", ""), ("c", "d", "")),
}


class Section:
    """What all sections have; a Section itself has no sides."""

    KIND = "none"
    MOST = 50

    def __init__(self, name, length):
        if not is_name(name):
            raise InvalidName(name)
        if not is_number(length, 1, Section.MOST):
            raise InvalidNumber(length)
        self.name = name
        self.length = length

    def sides(self):
        return list(SIDES_OF[self.KIND])

    def ends(self):
        return [(self.name, side) for side in SIDES_OF[self.KIND]]

    def ways(self, side):
        found = []
        for one, other, position in WAYS_OF[self.KIND]:
            if side == one:
                found.append((other, position))
            if side == other:
                found.append((one, position))
        return sorted(found)

    def text(self):
        return f"{self.KIND} {self.name} {self.length}"

    def __eq__(self, other):
        if not isinstance(other, Section):
            return False
        return self.KIND == other.KIND and self.name == other.name and self.length == other.length

    def __repr__(self):
        return f"Section({self.text()})"


class Plain(Section):
    KIND = "plain"


class Point(Section):
    """A section that lies in one of two positions, left or right."""

    KIND = "point"


class Crossing(Section):
    KIND = "crossing"
