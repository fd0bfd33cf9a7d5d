import random
import unittest

from helpers import ANYTHING, PASSING_PLACE, Case, some_track, track_of
from ringlessday.errors import UnknownEnd, UnknownName
from ringlessday.tracktext import read_track
from ringlessday.walks import begin, outward, walks


def walks_by_definition(track, mark):
    """All walks of [6], found by lengthening rows of ways one by one; the longest rows come last."""
    rows = []
    start = track.mark(mark)
    first = start[2] if start[0] == "border" else track.beyond(start[2])
    growing = [[(first[0], first[1], way[0])] for way in track.section(first[0]).ways(first[1])]
    while growing:
        row = growing.pop()
        end = (row[-1][0], row[-1][2])
        if track.mark_at(end) is not None:
            rows.append(row)
            continue
        entered = track.beyond(end)
        if entered is None or entered[0] in [name for name, _, _ in row]:
            continue
        for way in track.section(entered[0]).ways(entered[1]):
            growing.append(row + [(entered[0], entered[1], way[0])])
    return sorted(rows)


class BeginTest(Case):
    def test_a_border(self):
        track = read_track(PASSING_PLACE)
        self.same(begin(track, "west"), ("w", "a"))
        self.same(begin(track=track, mark="east"), ("f", "b"))

    def test_a_signal(self):
        track = read_track(PASSING_PLACE)
        self.same([begin(track, mark) for mark in ("su", "sl", "tu", "m", "n")],
                  [("q", "left"), ("q", "right"), ("p", "left"), ("f", "a"), ("e", "b")])

    def test_unknown_names(self):
        track = track_of("plain x 1; plain y 1; joint x.b y.a; border west x.a")
        for value in ANYTHING + ["y", "east"]:
            self.refused(UnknownName(value), begin, track, value)


class OutwardTest(Case):
    def outward(self, text):
        """Outward from the left branch of the point p."""
        return outward(track_of("point p 5;" + text), ("p", "left"))

    def test_loose_ends(self):
        self.assertIsNone(self.outward(""))
        self.assertIsNone(self.outward("plain x 1; joint p.left x.a"))
        self.assertIsNone(self.outward("plain x 1; plain y 1; joint p.left x.b; joint x.a y.a"))

    def test_borders(self):
        self.assertIsNone(self.outward("border west p.left"))
        self.assertIsNone(self.outward("plain x 1; joint p.left x.a; border west x.b"))

    def test_crossings(self):
        self.assertIsNone(self.outward("crossing q 1; point r 1; joint p.left q.a; joint q.b r.left"))
        self.assertIsNone(self.outward("plain x 1; crossing q 1; point r 1; joint p.left x.a; joint q.a r.left; "
                                       "joint q.b x.b"))

    def test_points_at_once(self):
        for side in ("left", "right", "stem"):
            self.same(self.outward(f"point q 5; joint p.left q.{side}"), ("q", side))

    def test_points_over_plain_sections(self):
        for side in ("left", "right", "stem"):
            self.same(self.outward(f"plain x 1; point q 5; joint p.left x.b; joint q.{side} x.a"), ("q", side))
            self.same(self.outward(f"plain x 1; plain y 9; plain z 5; point q 5; joint p.left x.a; joint q.{side} z.a;"
                                   "joint x.b y.b; joint y.a z.b"), ("q", side))

    def test_only_the_first_point(self):
        self.same(self.outward("point q 5; point r 5; joint p.left q.left; joint q.stem r.left"), ("q", "left"))

    def test_signals_on_the_way(self):
        self.same(self.outward("plain x 1; point q 5; joint p.left x.b; joint q.left x.a; signal s x.a; signal t x.b;"
                               "signal u p.left; signal v q.left"), ("q", "left"))

    def test_the_point_itself(self):
        self.same(self.outward("joint p.left p.right"), ("p", "right"))
        self.same(self.outward("joint p.left p.stem"), ("p", "stem"))
        self.same(self.outward("plain x 1; joint p.left x.a; joint p.right x.b"), ("p", "right"))

    def test_rings_of_plain_sections(self):
        one = track_of("plain x 1; joint x.a x.b")
        self.assertEqual([outward(one, ("x", "a")), outward(one, ("x", "b"))], [None, None])
        three = track_of("plain x 1; plain y 1; plain z 1; joint x.a z.a; joint x.b y.a; joint y.b z.b")
        for name in "xyz":
            for side in "ab":
                self.assertIsNone(outward(three, (name, side)))

    def test_from_ends_of_all_kinds_of_sections(self):
        track = track_of("plain x 1; point p 1; crossing q 1; joint p.left x.b; joint p.stem q.a; joint q.c x.a")
        ends = [end for section in track.sections() for end in section.ends()]
        self.assertEqual([(end, outward(track, end)) for end in ends if outward(track, end) is not None],
                         [(("x", "b"), ("p", "left")), (("q", "a"), ("p", "stem")), (("q", "c"), ("p", "left"))])

    def test_by_the_names_of_the_parameters(self):
        track = track_of("plain x 1; point p 1; joint p.left x.b")
        self.same(outward(track=track, end=("x", "b")), ("p", "left"))

    def test_unknown_ends(self):
        track = track_of("plain x 1; plain y 1; border west x.b")
        for value in [value for value in ANYTHING if value != ("x", "a")] + [("x", "c"), ("z", "a"), ("west", "a")]:
            self.refused(UnknownEnd(value), outward, track, value)


class WalksTest(Case):
    def walks(self, text, mark):
        return list(walks(track_of(text), mark))

    def test_the_passing_place(self):
        track = read_track(PASSING_PLACE)
        self.same(list(walks(track, "west")), [
            [("w", "a", "b"), ("p", "stem", "left"), ("u", "a", "b")],
            [("w", "a", "b"), ("p", "stem", "right"), ("l", "a", "b")]])
        self.same(list(walks(track=track, mark="su")), [[("q", "left", "stem"), ("e", "a", "b")]])
        self.same(list(walks(track, "m")), [[("f", "a", "b")]])

    def test_over_a_single_section(self):
        self.same(self.walks("plain x 1; border west x.a; border east x.b", "west"), [[("x", "a", "b")]])
        self.same(self.walks("plain x 1; border west x.a; border east x.b", "east"), [[("x", "b", "a")]])

    def test_loose_ends_lead_nowhere(self):
        self.same(self.walks("plain x 1; border west x.a", "west"), [])
        self.same(self.walks("plain x 1; plain y 1; joint x.b y.a; border west x.a; signal s x.b", "s"), [])
        self.same(self.walks("point p 1; border west p.stem; border north p.right", "west"), [[("p", "stem", "right")]])

    def test_a_signal_for_the_other_direction_means_nothing(self):
        text = "plain x 1; plain y 1; joint x.b y.a; border west x.a; border east y.b; signal s y.a"
        self.same(self.walks(text, "west"), [[("x", "a", "b"), ("y", "a", "b")]])
        self.same(self.walks(text, "east"), [[("y", "b", "a")]])
        self.same(self.walks(text, "s"), [[("x", "b", "a")]])

    def test_a_point_from_a_branch(self):
        text = "point p 1; border west p.stem; border north p.right; border south p.left"
        self.same(self.walks(text, "north"), [[("p", "right", "stem")]])
        self.same(self.walks(text, "south"), [[("p", "left", "stem")]])

    def test_crossings(self):
        text = "crossing q 1; border a q.a; border b q.b; border c q.c; border d q.d"
        self.same([self.walks(text, mark) for mark in "abcd"],
                  [[[("q", "a", "b")]], [[("q", "b", "a")]], [[("q", "c", "d")]], [[("q", "d", "c")]]])

    def test_a_crossing_is_not_entered_twice(self):
        self.same(self.walks("crossing q 1; plain x 1; joint q.b x.a; joint q.c x.b; border west q.a; border east q.d",
                             "west"), [])
        self.same(self.walks("crossing q 1; joint q.b q.c; border west q.a; border east q.d", "west"), [])

    def test_a_loop_through_a_point_leads_nowhere(self):
        self.same(self.walks("plain w 1; point p 1; plain k 1; joint k.a p.left; joint k.b p.right; joint p.stem w.b;"
                             "border west w.a", "west"), [])

    def test_a_loop_with_a_signal(self):
        self.same(self.walks("plain w 1; point p 1; plain k 1; joint k.a p.left; joint k.b p.right; joint p.stem w.b;"
                             "border west w.a; signal s k.b", "west"),
                  [[("w", "a", "b"), ("p", "stem", "left"), ("k", "a", "b")]])

    def test_round_a_ring_back_to_its_own_signal(self):
        text = "plain x 1; plain y 1; joint x.a y.b; joint x.b y.a; signal s x.b"
        self.same(self.walks(text, "s"), [[("y", "a", "b"), ("x", "a", "b")]])
        self.same(self.walks("plain x 1; joint x.a x.b; signal s x.b", "s"), [[("x", "a", "b")]])

    def test_ascending(self):
        text = ("plain x 1; point p 1; point q 1; point r 1; joint p.left q.stem; joint p.right r.stem;"
                "joint p.stem x.b; border west x.a; border a r.right; border b r.left; border c q.right;"
                "border d q.left")
        found = self.walks(text, "west")
        self.same(found, sorted(found))
        self.same([[row[2] for row in walk] for walk in found],
                  [["b", "left", "left"], ["b", "left", "right"], ["b", "right", "left"], ["b", "right", "right"]])

    def test_tracks_at_random(self):
        chance = random.Random(8)
        many = 0
        for _ in range(300):
            track = some_track(chance)
            for mark in track.marks():
                found = list(walks(track, mark[1]))
                self.same(found, walks_by_definition(track, mark[1]))
                many += len(found)
        self.assertGreater(many, 300)

    def test_unknown_names_when_the_first_item_is_requested(self):
        track = track_of("plain x 1; border west x.a")
        for value in ANYTHING + ["west.a.1"]:
            self.refused_first(UnknownName(value), walks(track, value))

    def test_lists_are_new(self):
        track = read_track(PASSING_PLACE)
        first = list(walks(track, "west"))
        first[0].clear()
        self.assertEqual(len(list(walks(track, "west"))[0]), 3)


if __name__ == "__main__":
    unittest.main()
