import random
import unittest

from helpers import ANYTHING, PASSING_PLACE, Case, some_track, track_of
from ringlessday.errors import TooMany
from ringlessday.routes import all_routes, disagree
from ringlessday.sections import Point
from ringlessday.tracktext import read_track
from ringlessday.walks import outward, walks

# Three borders in the west and four in the east, with one track between: 12 routes in each direction.
FAN = ("point a 1; point b 1; point c 1; point d 1; point e 1; joint a.stem b.left; joint b.stem c.stem;"
       "joint c.left d.stem; joint c.right e.stem")
FAN_MARKS = ("border u a.left; border v a.right; border w b.right; border k d.left; border l d.right;"
             "border m e.left; border n e.right")


def named(text):
    return {route.name: route for route in all_routes(track_of(text))}


class OrderAndNamesTest(Case):
    def test_the_passing_place(self):
        self.same([route.name for route in all_routes(read_track(PASSING_PLACE))],
                  ["east.n.1", "m.east.1", "n.tl.1", "n.tu.1", "sl.m.1", "su.m.1", "tl.west.1", "tu.west.1",
                   "west.sl.1", "west.su.1"])

    def test_starts_and_goals_ahead_of_walks(self):
        found = all_routes(track_of("point p 1; border c p.stem; border b p.left; border a p.right"))
        self.same([(route.name, route.start, route.goal) for route in found],
                  [("a.c.1", "a", "c"), ("b.c.1", "b", "c"), ("c.a.1", "c", "a"), ("c.b.1", "c", "b")])

    def test_routes_with_the_same_start_and_goal_are_counted(self):
        text = ("point p 1; point q 1; plain x 1; joint p.left q.left; joint p.right x.a; joint q.right x.b;"
                "border west p.stem; border east q.stem")
        found = all_routes(track=track_of(text))
        self.same([(route.name, route.names()) for route in found],
                  [("east.west.1", ["q", "p"]), ("east.west.2", ["q", "x", "p"]),
                   ("west.east.1", ["p", "q"]), ("west.east.2", ["p", "x", "q"])])

    def test_all_walks_are_routes(self):
        chance = random.Random(3)
        for _ in range(100):
            track = some_track(chance)
            rows = sorted([(mark[1], track.mark_at((walk[-1][0], walk[-1][2])), walk)
                           for mark in track.marks() for walk in walks(track, mark[1])])
            if len(rows) <= 24:
                found = all_routes(track)
                self.same([(route.start, route.goal, route.sections()) for route in found], rows)
                for at, route in enumerate(found):
                    alike = [one for one in found[:at + 1] if (one.start, one.goal) == (route.start, route.goal)]
                    self.assertEqual(route.name, f"{route.start}.{route.goal}.{len(alike)}")

    def test_no_routes(self):
        self.same(all_routes(track_of("")), [])
        self.same(all_routes(track_of("plain x 1; border west x.a")), [])

    def test_just_24_routes(self):
        found = all_routes(track_of(FAN + ";" + FAN_MARKS))
        self.assertEqual(len(found), 24)
        self.same([route.name for route in found][:4], ["k.u.1", "k.v.1", "k.w.1", "l.u.1"])

    def test_25_routes_are_too_many(self):
        more = "plain x 1; plain y 1;" + FAN + "; joint x.b y.a;" + FAN_MARKS + "; border z x.a; signal s x.b"
        self.refused(TooMany("routes", 24), all_routes, track_of(more))
        self.assertEqual(len(all_routes(track_of(more.replace("; border z x.a", "")))), 24)


class RouteTest(Case):
    def setUp(self):
        self.routes = {route.name: route for route in all_routes(read_track(PASSING_PLACE))}

    def test_attributes(self):
        route = self.routes["west.su.1"]
        self.same([route.name, route.start, route.goal, route.leaves], ["west.su.1", "west", "su", False])
        self.same([name for name, route in self.routes.items() if route.leaves],
                  ["m.east.1", "tl.west.1", "tu.west.1"])

    def test_sections_names_lengths(self):
        route = self.routes["west.su.1"]
        self.same(route.sections(), [("w", "a", "b"), ("p", "stem", "left"), ("u", "a", "b")])
        self.same([route.names(), route.lengths(), len(route)], [["w", "p", "u"], [20, 5, 30], 3])
        self.same([self.routes["m.east.1"].names(), len(self.routes["m.east.1"])], [["f"], 1])

    def test_demand_and_flanks(self):
        route = self.routes["west.sl.1"]
        self.same(route.demand(), [("l", "hold", ""), ("p", "hold", "right"), ("q", "guard", "right"),
                                   ("w", "hold", "")])
        self.same([route.flanks(), route.askers("q")], [[("q", "right")], ["p"]])
        self.same(self.routes["tu.west.1"].demand(), [("p", "hold", "left"), ("q", "guard", "left"), ("w", "hold", "")])
        self.same(self.routes["m.east.1"].demand(), [("f", "hold", "")])

    def test_askers_of_any_other_value(self):
        route = self.routes["west.su.1"]
        self.same(route.askers(point="q"), ["p"])
        for value in ANYTHING + ["p", "u", "w", "l", "west"]:
            self.same(route.askers(value), [])

    def test_repr_and_length(self):
        self.assertEqual(repr(self.routes["west.su.1"]), "Route(west.su.1)")
        for route in self.routes.values():
            self.assertEqual(len(route), len(route.sections()))

    def test_lists_are_new(self):
        route = self.routes["west.su.1"]
        for call in (route.sections, route.names, route.lengths, route.demand, route.flanks):
            self.is_new_list(call)
        self.is_new_list(lambda: route.askers("q"))
        self.is_new_list(lambda: all_routes(read_track(PASSING_PLACE)))

    def test_equal(self):
        again = {route.name: route for route in all_routes(read_track(PASSING_PLACE))}
        for one in self.routes:
            for other in again:
                self.assertEqual(self.routes[one] == again[other], one == other)
                self.assertEqual(self.routes[one] != again[other], one != other)

    def test_a_route_equals_nothing_else(self):
        route = self.routes["west.su.1"]
        for value in [*ANYTHING, "west.su.1", route.sections(), route.demand()]:
            self.assertFalse(route == value)

    def test_routes_that_differ_in_one_thing(self):
        text = "plain x 1; point p 2; point q 3; joint p.right q.right; joint p.stem x.b; border w x.a; border s p.left"
        route = named(text)["w.s.1"]
        self.assertTrue(route == named(text + "; border t q.left")["w.s.1"])
        self.assertFalse(route == named(text.replace("plain x 1", "plain x 2"))["w.s.1"])
        self.assertFalse(route == named(text.replace("joint p.right q.right", "joint p.right q.left"))["w.s.1"])
        self.assertFalse(route == named(text.replace("border s", "border t"))["w.t.1"])
        self.assertFalse(route == named("plain x 1; point p 2; point q 3; joint p.left q.right; joint p.stem x.b;"
                                        "border w x.a; border s p.right")["w.s.1"])
        self.assertFalse(route == named("plain y 1; point p 2; point q 3; joint p.right q.right; joint p.stem y.b;"
                                        "border w y.a; border s p.left")["w.s.1"])

    def test_routes_that_differ_in_their_sides(self):
        one = named("plain x 1; border west x.a; border east x.b")["west.east.1"]
        other = named("plain x 1; border west x.b; border east x.a")["west.east.1"]
        self.same(one.demand(), other.demand())
        self.assertFalse(one == other)


class FlanksTest(Case):
    """The route w.s.1 runs through the point p over its left branch, so that it asks from its right one."""

    def flanks(self, text):
        route = named("point p 5;" + text + "; border w p.stem; border s p.left")["w.s.1"]
        back = named("point p 5;" + text + "; border w p.stem; border s p.left")["s.w.1"]
        self.same(route.flanks(), back.flanks())
        self.same(route.demand(), sorted([("p", "hold", "left")] + [(point, "guard", position)
                                                                    for point, position in route.flanks()]))
        return route.flanks()

    def test_entered_by_a_branch(self):
        self.same(self.flanks("point q 1; joint p.right q.left"), [("q", "right")])
        self.same(self.flanks("point q 1; joint p.right q.right"), [("q", "left")])
        self.same(self.flanks("plain x 1; point q 1; joint p.right x.a; joint q.right x.b"), [("q", "left")])
        self.same(self.flanks("plain x 1; plain y 1; point q 1; joint p.right x.b; joint q.left y.b; joint x.a y.a"),
                  [("q", "right")])

    def test_nothing_is_asked(self):
        self.same(self.flanks("point q 1; joint p.right q.stem"), [])
        self.same(self.flanks("plain x 1; point q 1; joint p.right x.a; joint q.stem x.b"), [])
        self.same(self.flanks("crossing q 1; point r 1; joint p.right q.a; joint q.b r.left"), [])
        self.same(self.flanks("plain x 1; joint p.right x.a"), [])
        self.same(self.flanks(""), [])
        for text in ("plain x 1; joint p.right x.a; border n x.b", "plain x 1; border n p.right"):
            self.same(self.flanks(text), [])

    def test_signals_mean_nothing(self):
        self.same(self.flanks("plain x 1; point q 1; joint p.right x.a; joint q.right x.b; signal a x.a; signal b x.b;"
                              "signal c p.right; signal d q.right"), [("q", "left")])

    def test_the_used_branch_asks_nothing(self):
        routes = named("plain w 1; point p 1; plain x 1; point q 1; joint p.left x.a; joint p.stem w.b; joint q.right x.b;"
                       "border west w.a; signal s x.b")
        self.same(routes["west.s.1"].flanks(), [])

    def test_a_point_entered_by_a_branch_asks_from_the_other_one(self):
        routes = named("point p 1; point q 1; joint p.right q.left; border n p.left; border w p.stem")
        self.same([routes["n.w.1"].demand(), routes["w.n.1"].demand()],
                  [[("p", "hold", "left"), ("q", "guard", "right")]] * 2)

    def test_a_point_of_the_route_is_no_flank(self):
        # Outward from p.right the route's own point q is met by its right side.
        routes = named("point p 1; point q 1; joint p.left q.left; joint p.right q.right; border w p.stem; border e q.stem")
        self.same(routes["w.e.1"].demand(), [("p", "hold", "left"), ("q", "hold", "left")])
        self.same(routes["w.e.2"].demand(), [("p", "hold", "right"), ("q", "hold", "right")])

    def test_a_point_that_meets_itself_is_no_flank(self):
        routes = named("plain x 1; plain y 1; point p 1; joint p.left x.a; joint p.right x.b; joint p.stem y.b;"
                       "border w y.a; signal s x.b")
        self.same(routes["w.s.1"].demand(), [("p", "hold", "left"), ("x", "hold", ""), ("y", "hold", "")])

    def test_a_flank_that_two_points_ask_for_in_both_positions(self):
        ground = "point p 1; point q 1; point f 1; joint f.left p.right;"
        marks = "border w p.stem; border e q.stem"
        routes = named(ground + "joint f.right q.right; joint p.left q.left;" + marks)
        route = routes["w.e.1"]
        self.same([route.flanks(), route.askers("f")], [[], []])
        self.same(route.demand(), [("p", "hold", "left"), ("q", "hold", "left")])

    def test_two_flanks(self):
        routes = named("point p 1; point q 1; point f 1; point g 1; joint f.left q.right; joint g.right p.right;"
                       "joint p.left q.left; border w p.stem; border e q.stem")
        route = routes["w.e.1"]
        self.same([route.flanks(), route.askers("f"), route.askers("g")],
                  [[("f", "right"), ("g", "left")], ["q"], ["p"]])
        self.same(route.demand(), [("f", "guard", "right"), ("g", "guard", "left"), ("p", "hold", "left"),
                                   ("q", "hold", "left")])

    def test_the_plain_sections_on_the_way_are_not_held(self):
        routes = named("plain x 1; point p 1; point q 1; joint p.right x.a; joint q.right x.b; border w p.stem;"
                       "border s p.left")
        self.same([row[0] for row in routes["w.s.1"].demand()], ["p", "q"])

    def test_tracks_at_random(self):
        chance = random.Random(11)
        flanks = 0
        for _ in range(300):
            track = some_track(chance, 12)
            if sum(len(list(walks(track, mark[1]))) for mark in track.marks()) > 24:
                continue
            for route in all_routes(track):
                asked = {}
                for name, entry, leaving in route.sections():
                    if isinstance(track.section(name), Point):
                        unused = [side for side in ("left", "right") if side not in (entry, leaving)]
                        self.assertEqual(len(unused), 1)
                        met = outward(track, (name, unused[0]))
                        if met is not None and met[1] in ("left", "right") and met[0] not in route.names():
                            position = "right" if met[1] == "left" else "left"
                            asked.setdefault(met[0], {}).setdefault(position, []).append(name)
                wanted = sorted((point, *positions) for point, positions in asked.items() if len(positions) == 1)
                self.same(route.flanks(), wanted)
                for point, position in wanted:
                    self.same(route.askers(point), asked[point][position])
                self.same(route.demand(), sorted(route.demand()))
                flanks += len(wanted)
        self.assertGreater(flanks, 20)


class DisagreeTest(Case):
    def test_both_hold(self):
        self.same(disagree([("x", "hold", "")], [("x", "hold", "")]), ["x"])
        self.same(disagree([("p", "hold", "left")], [("p", "hold", "left")]), ["p"])
        self.same(disagree([("p", "hold", "left")], [("p", "hold", "right")]), ["p"])

    def test_held_and_guarded(self):
        self.same(disagree([("p", "hold", "left")], [("p", "guard", "left")]), [])
        self.same(disagree([("p", "hold", "left")], [("p", "guard", "right")]), ["p"])
        self.same(disagree([("p", "guard", "left")], [("p", "hold", "left")]), [])
        self.same(disagree([("p", "guard", "left")], [("p", "hold", "right")]), ["p"])

    def test_both_guard(self):
        self.same(disagree([("p", "guard", "left")], [("p", "guard", "left")]), [])
        self.same(disagree([("p", "guard", "left")], [("p", "guard", "right")]), ["p"])

    def test_different_elements(self):
        self.same(disagree([("x", "hold", "")], [("y", "hold", "")]), [])
        self.same(disagree([], [("y", "hold", "")]), [])
        self.same(disagree([], []), [])

    def test_ascending_and_each_once(self):
        rows = [("x", "hold", ""), ("p", "guard", "left"), ("a", "hold", ""), ("x", "hold", "")]
        other = [("a", "hold", ""), ("x", "hold", ""), ("p", "hold", "right"), ("a", "hold", ""), ("p", "guard", "left")]
        self.same(disagree(one=rows, other=other), ["a", "p", "x"])
        self.same(disagree(tuple(rows), tuple(other)), ["a", "p", "x"])

    def test_arguments_are_not_changed(self):
        rows = [("x", "hold", ""), ("p", "guard", "left")]
        other = [("p", "guard", "right"), ("a", "hold", "")]
        disagree(rows, other)
        self.same([rows, other], [[("x", "hold", ""), ("p", "guard", "left")], [("p", "guard", "right"), ("a", "hold", "")]])

    def test_a_route_disagrees_with_itself_at_each_of_its_sections(self):
        for route in all_routes(read_track(PASSING_PLACE)):
            self.same(disagree(route.demand(), route.demand()), sorted(route.names()))


if __name__ == "__main__":
    unittest.main()
