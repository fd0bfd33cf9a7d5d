import unittest

from helpers import ANYTHING, Case
from ringlessday.errors import InvalidName, InvalidNumber
from ringlessday.sections import Crossing, Plain, Point, Section

KINDS = [Section, Plain, Point, Crossing]


class SectionsTest(Case):
    def test_class_values(self):
        self.assertEqual([kind.KIND for kind in KINDS], ["none", "plain", "point", "crossing"])
        self.same([kind.MOST for kind in KINDS], [50, 50, 50, 50])
        self.assertEqual([kind("x", 1).KIND for kind in KINDS], ["none", "plain", "point", "crossing"])

    def test_kinds_are_sections(self):
        for kind in (Plain, Point, Crossing):
            self.assertIsInstance(kind("x", 1), Section)

    def test_attributes(self):
        for kind in KINDS:
            for section in (kind("x", 20), kind(name="x", length=20)):
                self.same([section.name, section.length], ["x", 20])

    def test_lengths_at_the_edges(self):
        for kind in KINDS:
            self.same([kind("x", 1).length, kind("x", 50).length], [1, 50])
            for length in (0, 51, -1, True, False, None, "5", (5,), [5], 10 ** 30):
                self.refused(InvalidNumber(length), kind, "x", length)

    def test_names_at_the_edges(self):
        for kind in KINDS:
            self.assertEqual(kind("abcdef", 1).name, "abcdef")
            for name in ("", "abcdefg", "X", "x1", None, 1, True, ("x",), ["x"], [["x"]]):
                self.refused(InvalidName(name), kind, name, 5)

    def test_the_name_is_checked_ahead_of_the_length(self):
        for kind in KINDS:
            self.refused(InvalidName("X"), kind, "X", 0)
            self.refused(InvalidName(None), kind, None, None)

    def test_any_name_and_any_length(self):
        for value in ANYTHING:
            if value not in ("a", "x", "stem", "plain"):
                self.refused(InvalidName(value), Plain, value, 5)
            if repr(value) not in ("1", "7"):
                self.refused(InvalidNumber(value), Plain, "x", value)

    def test_sides(self):
        self.assertEqual([kind("x", 1).sides() for kind in KINDS],
                         [[], ["a", "b"], ["left", "right", "stem"], ["a", "b", "c", "d"]])

    def test_ends(self):
        self.assertEqual(Section("x", 1).ends(), [])
        self.assertEqual(Plain("x", 1).ends(), [("x", "a"), ("x", "b")])
        self.assertEqual(Point("p", 1).ends(), [("p", "left"), ("p", "right"), ("p", "stem")])
        self.assertEqual(Crossing("q", 1).ends(), [("q", "a"), ("q", "b"), ("q", "c"), ("q", "d")])

    def test_ways_of_a_plain_section(self):
        section = Plain("x", 1)
        self.assertEqual([section.ways("a"), section.ways("b")], [[("b", "")], [("a", "")]])

    def test_ways_of_a_point(self):
        section = Point("p", 1)
        self.assertEqual(section.ways("left"), [("stem", "left")])
        self.assertEqual(section.ways("right"), [("stem", "right")])
        self.assertEqual(section.ways("stem"), [("left", "left"), ("right", "right")])

    def test_ways_of_a_crossing(self):
        section = Crossing("q", 1)
        self.assertEqual([section.ways(side) for side in "abcd"], [[("b", "")], [("a", "")], [("d", "")], [("c", "")]])

    def test_no_ways_from_what_is_no_side(self):
        self.assertEqual([Plain("x", 1).ways(side) for side in ("c", "d", "left", "stem")], [[], [], [], []])
        self.assertEqual([Point("p", 1).ways(side) for side in ("a", "b", "Left")], [[], [], []])
        for value in ANYTHING:
            self.assertEqual(Section("x", 1).ways(value), [])
            if value not in ("a", "stem"):
                for kind in (Plain, Point, Crossing):
                    self.assertEqual(kind("x", 1).ways(value), [])
        self.assertEqual(Plain("x", 1).ways(side="a"), [("b", "")])

    def test_lists_are_new(self):
        for kind in KINDS:
            section = kind("x", 1)
            self.is_new_list(section.sides)
            self.is_new_list(section.ends)
            for side in ("a", "stem"):
                self.is_new_list(lambda: section.ways(side))

    def test_text_and_repr(self):
        self.assertEqual([kind("x", 20).text() for kind in KINDS], ["none x 20", "plain x 20", "point x 20", "crossing x 20"])
        self.assertEqual(repr(Point("p", 5)), "Section(point p 5)")
        self.assertEqual([repr(kind("x", 9)) for kind in KINDS],
                         ["Section(none x 9)", "Section(plain x 9)", "Section(point x 9)", "Section(crossing x 9)"])

    def test_equal(self):
        for kind in KINDS:
            self.assertTrue(kind("x", 5) == kind("x", 5))
            self.assertFalse(kind("x", 5) != kind("x", 5))

    def test_unequal(self):
        for one in KINDS:
            self.assertFalse(one("x", 5) == one("x", 6))
            self.assertFalse(one("x", 5) == one("y", 5))
            for other in KINDS:
                self.assertEqual(one("x", 5) == other("x", 5), one is other)
            for value in [*ANYTHING, "plain x 5", "Section(plain x 5)", ("x", 5)]:
                self.assertFalse(one("x", 5) == value)
                self.assertTrue(one("x", 5) != value)


if __name__ == "__main__":
    unittest.main()
