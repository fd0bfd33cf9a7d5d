import unittest

from helpers import ANYTHING, PASSING_PLACE, Case, track_of
from test_routes import FAN, FAN_MARKS
from ringlessday.errors import TooMany, UnknownName
from ringlessday.layouts import Layout
from ringlessday.routes import all_routes, disagree
from ringlessday.sections import Plain
from ringlessday.tracktext import read_track, track_text


class LayoutsTest(Case):
    def setUp(self):
        self.layout = Layout(read_track(PASSING_PLACE))

    def test_made_by_name_and_most(self):
        self.assertEqual(Layout(track=read_track(PASSING_PLACE)), self.layout)
        self.same(Layout.MOST, 24)

    def test_too_many_routes(self):
        track = track_of("plain x 1; plain y 1;" + FAN + "; joint x.b y.a;" + FAN_MARKS)
        self.assertEqual(len(Layout(track)), 24)
        track.border("z", ("x", "a"))
        track.signal("s", ("x", "b"))
        self.refused(TooMany("routes", 24), Layout, track)

    def test_a_track_that_is_changed_behind_its_layout(self):
        track = read_track(PASSING_PLACE)
        layout = Layout(track)
        track.drop("west")
        track.put(Plain("x", 1))
        self.assertEqual(track_text(layout.track()), PASSING_PLACE)
        self.assertEqual(len(layout), 10)
        self.assertTrue("west.su.1" in layout)
        self.assertEqual(layout, self.layout)
        self.same(layout.element_names(), ["e", "f", "l", "p", "q", "u", "w"])

    def test_the_track_of_a_layout_is_independent(self):
        track = self.layout.track()
        track.drop("west")
        self.assertEqual(track_text(self.layout.track()), PASSING_PLACE)
        self.same(self.layout.routes_from("west"), ["west.sl.1", "west.su.1"])

    def test_routes(self):
        self.assertEqual(self.layout.routes(), all_routes(read_track(PASSING_PLACE)))
        self.assertEqual(Layout(track_of("")).routes(), [])

    def test_route_of(self):
        for route in self.layout.routes():
            self.assertEqual(self.layout.route_of(route.name), route)
        self.assertEqual(self.layout.route_of(name="west.su.1").names(), ["w", "p", "u"])
        for value in ANYTHING + ["west", "west.su", "west.su.2", "west.su.1 ", ("west.su.1",), ["west.su.1"]]:
            self.refused(UnknownName(value), self.layout.route_of, value)

    def test_routes_from(self):
        self.same([self.layout.routes_from(mark) for mark in ("west", "n", "m")],
                  [["west.sl.1", "west.su.1"], ["n.tl.1", "n.tu.1"], ["m.east.1"]])
        self.same(Layout(track_of("plain x 1; border west x.a")).routes_from(mark="west"), [])
        for value in ANYTHING + ["w", "west.su.1"]:
            self.refused(UnknownName(value), self.layout.routes_from, value)

    def test_element_names(self):
        self.same(Layout(track_of("plain z 1; crossing a 1; point m 1")).element_names(), ["a", "m", "z"])

    def test_is_point(self):
        self.same([self.layout.is_point(name) for name in ("p", "q")], [True, True])
        self.same(self.layout.is_point(element="u"), False)
        for value in ANYTHING + ["w", "west", "r", ("p",), ["p"]]:
            self.same(self.layout.is_point(value), False)

    def test_disagreements_and_clash(self):
        for one in self.layout.routes():
            for other in self.layout.routes():
                wanted = disagree(one.demand(), other.demand())
                self.same(self.layout.disagreements(one.name, other.name), wanted)
                self.same(self.layout.clash(one.name, other.name), len(wanted) > 0)
        self.same(self.layout.disagreements(one="west.su.1", other="n.tl.1"), ["p", "q"])
        self.same(self.layout.clash(one="west.su.1", other="m.east.1"), False)

    def test_disagreements_and_clash_of_wrong_names(self):
        for call in (self.layout.disagreements, self.layout.clash):
            for value in ANYTHING + ["west", "west.su.2"]:
                self.refused(UnknownName(value), call, value, "west.su.1")
                self.refused(UnknownName(value), call, "west.su.1", value)
                self.refused(UnknownName(value), call, value, "no route")

    def test_contains(self):
        for value in ANYTHING + ["west", "west.su.2", ("west.su.1",)]:
            self.assertFalse(value in self.layout)
        self.assertIs("west.su.1" in self.layout, True)

    def test_length_truth_and_repr(self):
        empty = Layout(track_of(""))
        self.same([len(self.layout), len(empty)], [10, 0])
        self.same([bool(self.layout), bool(empty)], [True, True])
        self.same([repr(self.layout), repr(empty)], ["Layout(10 routes)", "Layout(0 routes)"])
        self.assertEqual(repr(Layout(track_of("plain x 1; plain y 1; joint x.b y.a; border w x.a; signal s x.b"))),
                         "Layout(1 routes)")

    def test_equal(self):
        self.assertTrue(self.layout == Layout(read_track(PASSING_PLACE)))
        self.assertFalse(self.layout != Layout(read_track(PASSING_PLACE)))
        self.assertFalse(self.layout == Layout(read_track(PASSING_PLACE.replace("plain w 20", "plain w 21"))))
        # Without a route the tracks still differ.
        self.assertFalse(Layout(track_of("")) == Layout(track_of("plain x 1")))
        for value in [*ANYTHING, self.layout.track()]:
            self.assertFalse(self.layout == value)

    def test_lists_are_new(self):
        self.is_new_list(self.layout.routes)
        self.is_new_list(self.layout.element_names)
        self.is_new_list(lambda: self.layout.routes_from("west"))
        self.is_new_list(lambda: self.layout.disagreements("west.su.1", "n.tl.1"))


if __name__ == "__main__":
    unittest.main()
