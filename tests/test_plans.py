import unittest

from helpers import ANYTHING, PASSING_PLACE, Case, track_of
from ringlessday.errors import (DuplicateName, InvalidTurn, InvalidWait, MisplacedStep, OwnRing, TooMany, UnknownEntry,
                                UnknownName)
from ringlessday.layouts import Layout
from ringlessday.plans import Plan
from ringlessday.tracktext import read_track
from ringlessday.trains import Step, Train

PLACE = Layout(read_track(PASSING_PLACE))
# A line from west to east with signals in both directions between all sections but the outer ones.
LINE_TEXT = ("plain x 20; plain y 30; plain z 40; plain v 20; joint v.a z.b; joint x.b y.a; joint y.b z.a;"
             "border west x.a; border east v.b; signal ey y.b; signal ez z.b; signal wy y.a; signal wz z.a")
LINE = Layout(track_of(LINE_TEXT))
# A ring of p and r that is entered from w; a loop of p and k that is entered from w and left again.
RING = Layout(track_of("plain w 20; point p 5; plain r 40; joint p.left r.b; joint p.right w.b; joint p.stem r.a;"
                       "border west w.a; signal s r.b; signal t r.a"))
LOOP = Layout(track_of("plain w 20; point p 5; plain k 50; joint k.a p.left; joint k.b p.right; joint p.stem w.b;"
                       "border west w.a; signal s k.b; signal t k.a"))


def to_east(name="a", length=15, **more):
    """A train over the whole passing place."""
    return Train(name, length, Step("west.su.1", [4, 5, 11]), Step("su.m.1", [1, 5]), Step("m.east.1", [4]), **more)


def to_west(name="b", length=15, **more):
    return Train(name, length, Step("east.n.1", [4]), Step("n.tu.1", [4, 5, 11]), Step("tu.west.1", [1, 5]), **more)


def stays_in_y(name="a", length=25):
    return Train(name, length, Step("west.ey.1", [4, 9]))


def y_to_west(name="b", length=25):
    return Train(name, length, Step("wy.west.1", [5]), out=2)


def y_to_z(name="b", length=25):
    return Train(name, length, Step("ey.ez.1", [8]))


def z_to_y(name="c", length=25):
    return Train(name, length, Step("wz.wy.1", [7]), Step("wy.west.1", [6]), out=4)


def through(name="d", length=10):
    return Train(name, length, Step("west.ey.1", [4, 9]), Step("ey.ez.1", [5]), Step("ez.east.1", [4]), out=3)


def chain_of_three():
    return Plan(LINE, stays_in_y(), y_to_z(), z_to_y(), turns=[("b", "a", 10), ("c", "b", 20)])


class TrainsTest(Case):
    def test_at_most_six(self):
        self.same(Plan.TRAINS, 6)
        trains = [to_east(name) for name in "abcdef"]
        self.assertEqual(len(Plan(PLACE, *trains)), 6)
        self.refused(TooMany("trains", 6), Plan, PLACE, *trains, to_east("a"), turns=None, waits=None)

    def test_no_trains(self):
        plan = Plan(PLACE)
        self.same([plan.trains(), plan.entries(), plan.turns(), plan.waits(), len(plan)], [[], [], [], [], 0])

    def test_duplicate_names(self):
        self.refused(DuplicateName("a"), Plan, PLACE, to_east("a"), to_west("a"), turns=None)
        wrong = Train("a", 1, Step("no route", [1]))
        self.refused(DuplicateName("a"), Plan, PLACE, to_east("a"), wrong)
        self.refused(UnknownName("no route"), Plan, PLACE, wrong, wrong)

    def test_unknown_routes(self):
        for route in ("", "west", "west.su", "west.su.2", "east.m.1", "x"):
            train = Train("a", 60, Step("west.su.1", [1, 2, 3]), Step(route, [1, 2]))
            self.refused(UnknownName(route), Plan, PLACE, train, to_west("a"), turns=None)
            self.refused(UnknownName(route), Plan, PLACE, Train("a", 60, Step(route, [1]), Step("y", [1])))

    def test_a_wrong_number_of_times(self):
        for times in ([1], [1, 2], [1, 2, 3, 4]):
            train = Train("a", 60, Step("west.su.1", times), Step("no route", [1]))
            self.refused(MisplacedStep("a", 0), Plan, PLACE, train, turns=None)
        train = Train("b", 15, Step("west.su.1", [4, 5, 11]), Step("su.m.1", [1]), Step("no route", [1]))
        self.refused(MisplacedStep("b", 1), Plan, PLACE, to_east(), train, turns=None)

    def test_steps_that_do_not_follow(self):
        train = Train("a", 15, Step("west.su.1", [4, 5, 11]), Step("sl.m.1", [1, 5]))
        self.refused(MisplacedStep("a", 1), Plan, PLACE, train)
        train = Train("a", 15, Step("west.su.1", [4, 5, 11]), Step("su.m.1", [1, 5]), Step("n.tu.1", [1, 2, 3]))
        self.refused(MisplacedStep("a", 2), Plan, PLACE, train)
        train = Train("a", 15, Step("west.su.1", [4, 5, 11]), Step("west.su.1", [4, 5, 11]))
        self.refused(MisplacedStep("a", 1), Plan, PLACE, train)

    def test_no_step_begins_where_one_leaves(self):
        train = Train("a", 15, Step("tu.west.1", [1, 5]), Step("west.su.1", [4, 5, 11]))
        self.refused(MisplacedStep("a", 1), Plan, PLACE, train)

    def test_unknown_names_and_misplaced_steps_in_the_order_of_the_steps(self):
        train = Train("a", 15, Step("west.su.1", [4, 5]), Step("no route", [1]))
        self.refused(MisplacedStep("a", 0), Plan, PLACE, train)
        train = Train("a", 15, Step("no route", [4, 5]), Step("west.su.1", [1]))
        self.refused(UnknownName("no route"), Plan, PLACE, train)

    def test_longer_than_the_stand(self):
        self.assertEqual(len(Plan(LINE, stays_in_y(length=30))), 1)
        self.refused(MisplacedStep("a", 0), Plan, LINE, stays_in_y(length=31), stays_in_y("a"), turns=None)
        train = Train("c", 41, Step("west.ey.1", [1, 2]), Step("ey.ez.1", [1]))
        self.refused(MisplacedStep("c", 1), Plan, LINE, train)
        self.assertEqual(len(Plan(LINE, train.longer(-1))), 1)

    def test_a_train_that_leaves_may_be_longer_than_all(self):
        self.assertEqual(len(Plan(LINE, through(length=60))), 1)

    def test_the_first_train_counts(self):
        wrong = Train("b", 15, Step("west.su.1", [4]))
        self.refused(MisplacedStep("b", 0), Plan, PLACE, to_east(), wrong, Train("c", 1, Step("no route", [1])))


class TurnsTest(Case):
    def wrong(self, at, *turns, trains=None, waits=()):
        trains = trains or [stays_in_y(), y_to_west(), y_to_west("c")]
        self.refused(InvalidTurn(at), Plan, LINE, *trains, turns=list(turns), waits=waits)

    def test_from_both_sides_of_the_stand(self):
        for train in (y_to_west(), y_to_z()):
            plan = Plan(LINE, stays_in_y(), train, turns=[("b", "a", 0)])
            self.same([plan.turns(), plan.made_of("b"), plan.made_into("a")], [[("b", "a", 0)], "a", "b"])
        self.assertEqual(len(Plan(LINE, stays_in_y(), y_to_west(), turns=(("b", "a", 10 ** 6),))), 2)

    def test_no_list(self):
        for value in ANYTHING:
            if not isinstance(value, (list, tuple)):
                self.refused(InvalidTurn(-1), Plan, LINE, stays_in_y(), y_to_west(), turns=value, waits=None)

    def test_items_that_are_no_turns(self):
        for value in ANYTHING + [("b", "a"), ("b", "a", 5, 5), ["b", "a", 5], "bax", ("b", "a", None), ("b", "a", "5"),
                                 ("b", "a", True), ("b", "a", -1), ("b", "a", 10 ** 6 + 1), ("b", None, 5),
                                 (None, "a", 5), ("b", "x", 5), ("x", "a", 5), (["b"], "a", 5), ("b", ("a",), 5)]:
            self.wrong(0, value)
            self.wrong(1, ("b", "a", 5), value)

    def test_the_other_train_stands_ahead(self):
        self.wrong(0, ("a", "b", 5))
        self.wrong(0, ("b", "a", 5), trains=[y_to_west(), stays_in_y()])
        self.wrong(0, ("a", "a", 5))

    def test_no_train_is_made_of_itself(self):
        # The train goes round the ring and comes back to the signal where it began.
        train = Train("a", 5, Step("s.s.1", [1, 2]))
        self.refused(InvalidTurn(0), Plan, RING, train, turns=[("a", "a", 5)])
        self.refused(MisplacedStep("a", 0), Plan, RING, train)

    def test_the_other_train_stays(self):
        leaves = Train("a", 25, Step("west.ey.1", [4, 9]), Step("ey.ez.1", [5]), Step("ez.east.1", [4]))
        for train in (y_to_west(), y_to_z(), z_to_y("b"), Train("b", 25, Step("ez.east.1", [4]))):
            self.wrong(0, ("b", "a", 5), trains=[leaves, train])

    def test_both_have_the_same_length(self):
        for length in (24, 26):
            self.wrong(0, ("b", "a", 5), trains=[stays_in_y(), y_to_west(length=length)])

    def test_the_signal_stands_at_the_stand(self):
        self.wrong(0, ("c", "a", 5), trains=[stays_in_y(), z_to_y()])
        self.wrong(0, ("b", "a", 5), trains=[stays_in_y(), Train("b", 25, Step("ez.east.1", [4]))])
        self.wrong(0, ("b", "a", 5), trains=[stays_in_y(), stays_in_y("b")])

    def test_a_border_at_a_side_of_the_stand_is_no_signal(self):
        layout = Layout(track_of("plain x 20; plain y 20; joint x.b y.a; border west x.a; border east y.b; signal s x.b;"))
        stays = Train("a", 5, Step("west.s.1", [3]))
        self.refused(InvalidTurn(0), Plan, layout, stays, Train("b", 5, Step("west.s.1", [3])), turns=[("b", "a", 5)])
        self.assertEqual(len(Plan(layout, stays, Train("b", 5, Step("s.east.1", [3])), turns=[("b", "a", 5)])), 2)

    def test_a_side_of_the_stand_without_a_mark(self):
        layout = Layout(track_of("plain w 9; plain x 20; plain y 20; joint w.b x.a; joint x.b y.a; border west w.a;"
                                 "border east y.b; signal s x.b; signal t y.a"))
        stays = Train("a", 5, Step("west.s.1", [2, 3]))
        self.refused(InvalidTurn(0), Plan, layout, stays, Train("b", 5, Step("t.west.1", [3, 4])), turns=[("b", "a", 5)])
        self.assertEqual(len(Plan(layout, stays, Train("b", 5, Step("s.east.1", [3])), turns=[("b", "a", 5)])), 2)

    def test_a_side_that_the_last_route_does_not_use(self):
        # The train stands on the point, between left and stem; the signal at its right branch is at no used side.
        layout = Layout(track_of("point p 9; plain l 20; plain r 20; plain o 20; joint l.b p.left; joint o.a p.stem;"
                                 "joint p.right r.b; border a l.a; border b r.a; border c o.b;"
                                 "signal sl p.left; signal sr p.right; signal so p.stem"))
        stays = Train("t", 5, Step("a.so.1", [4, 5]))
        for route in ("sl.a.1", "so.c.1"):
            plan = Plan(layout, stays, Train("u", 5, Step(route, [3])), turns=[("u", "t", 5)])
            self.same(plan.made_of("u"), "t")
        self.refused(InvalidTurn(0), Plan, layout, stays, Train("u", 5, Step("sr.b.1", [3])), turns=[("u", "t", 5)])

    def test_a_train_is_made_of_one_and_into_one(self):
        self.wrong(1, ("b", "a", 5), ("c", "a", 5))
        self.wrong(1, ("b", "a", 5), ("b", "a", 5))
        two = [stays_in_y(), stays_in_y("b"), y_to_west("c")]
        self.wrong(1, ("c", "a", 5), ("c", "b", 5), trains=two)

    def test_the_first_wrong_one_counts(self):
        self.wrong(1, ("b", "a", 5), None, ("x", "y", 5))

    def test_ahead_of_starts_and_waits(self):
        self.wrong(0, None, waits=None)
        self.refused(MisplacedStep("c", 0), Plan, LINE, stays_in_y(), y_to_west(), y_to_west("c"),
                     turns=[("b", "a", 5)], waits=None)

    def test_trains_without_a_turn_begin_at_a_border(self):
        self.refused(MisplacedStep("b", 0), Plan, LINE, stays_in_y(), y_to_west())
        self.refused(MisplacedStep("b", 0), Plan, LINE, y_to_west(), y_to_west("c"))
        train = Train("c", 5, Step("ey.ez.1", [1]), Step("ez.east.1", [1]))
        self.refused(MisplacedStep("c", 0), Plan, LINE, through(), train, waits=None)


class WaitsTest(Case):
    def wrong(self, at, *waits):
        self.refused(InvalidWait(at), Plan, LINE, stays_in_y(), y_to_west(), through(), turns=[("b", "a", 5)],
                     waits=list(waits))

    def test_waits(self):
        waits = [("d", 0, "b", 0, 7), ("a", 0, "d", 2, 0), ("d", 2, "a", 0, 10 ** 6), ("d", 0, "b", 0, 7)]
        plan = Plan(LINE, stays_in_y(), y_to_west(), through(), turns=[("b", "a", 5)], waits=waits)
        self.same(plan.waits(), waits)
        self.assertEqual(Plan(LINE, stays_in_y(), through(), waits=(("d", 0, "a", 0, 7),)).waits(), [("d", 0, "a", 0, 7)])

    def test_no_list(self):
        for value in ANYTHING:
            if not isinstance(value, (list, tuple)):
                self.refused(InvalidWait(-1), Plan, LINE, stays_in_y(), through(), waits=value)

    def test_items_that_are_no_waits(self):
        for value in ANYTHING + [("d", 0, "a", 0), ("d", 0, "a", 0, 1, 1), ["d", 0, "a", 0, 1], ("d", 0, "a", 0, None),
                                 ("d", 0, "a", 0, True), ("d", 0, "a", 0, -1), ("d", 0, "a", 0, 10 ** 6 + 1),
                                 ("d", 0, "a", 0, "1"), (("d", 0), ("a", 0), 1), ("d", "0", "a", 0, 1)]:
            self.wrong(0, value)
            self.wrong(1, ("d", 0, "a", 0, 1), value)

    def test_entries_that_are_not_there(self):
        for value in (("d", 3, "a", 0, 1), ("d", -1, "a", 0, 1), ("d", 0, "a", 1, 1), ("d", 0, "a", -1, 1),
                      ("d", True, "a", 0, 1), ("d", 0, "a", False, 1), ("x", 0, "a", 0, 1), ("d", 0, "x", 0, 1),
                      (None, 0, "a", 0, 1), ("d", 0, ["a"], 0, 1), ("d", None, "a", 0, 1), ("d", 0, "a", (0,), 1)):
            self.wrong(0, value)

    def test_trains_of_one_chain(self):
        for value in (("a", 0, "a", 0, 1), ("d", 2, "d", 0, 1), ("a", 0, "b", 0, 1), ("b", 0, "a", 0, 1)):
            self.wrong(0, value)
        three = [stays_in_y(), y_to_z(), z_to_y(), through()]
        turns = [("b", "a", 5), ("c", "b", 5)]
        for value in (("a", 0, "c", 1, 1), ("c", 0, "a", 0, 1), ("c", 1, "b", 0, 1)):
            self.refused(InvalidWait(1), Plan, LINE, *three, turns=turns, waits=[("c", 1, "d", 0, 1), value])

    def test_the_first_wrong_one_counts(self):
        self.wrong(1, ("d", 0, "a", 0, 1), ("d", 3, "a", 0, 1), None)

    def test_ahead_of_own_rings(self):
        train = Train("a", 5, Step("west.s.1", [1, 2, 3]), Step("s.s.1", [1, 2]))
        self.refused(InvalidWait(-1), Plan, RING, train, waits=None)
        self.refused(OwnRing("a", 1, "r"), Plan, RING, train)


class OwnRingTest(Case):
    def test_round_a_ring_into_its_own_tail(self):
        for length in (1, 5, 40):
            train = Train("a", length, Step("west.s.1", [1, 2, 3]), Step("s.s.1", [1, 2]))
            self.refused(OwnRing("a", 1, "r"), Plan, RING, train)

    def test_the_first_element_counts(self):
        # The train ends in w, p and r when it asks for p and r again.
        layout = Layout(track_of("plain w 20; point p 5; plain a 40; joint a.a p.stem; joint a.b p.left;"
                                 "joint p.right w.b; border west w.a; signal s a.b; signal t a.a"))
        once = Train("t", 1, Step("west.s.1", [1, 2, 3]))
        self.assertEqual(len(Plan(layout, once)), 1)
        round_again = [Step("west.s.1", [1, 2, 3]), Step("s.s.1", [1, 2])]
        self.refused(OwnRing("t", 1, "a"), Plan, layout, Train("t", 40, *round_again))

    def test_a_tail_that_still_stands_on_the_point(self):
        steps = [Step("west.s.1", [1, 2, 3]), Step("s.west.1", [1, 2])]
        self.assertEqual(len(Plan(LOOP, Train("t", 50, *steps))), 1)
        self.refused(OwnRing("t", 1, "p"), Plan, LOOP, Train("t", 51, *steps))
        # The tail is in w and on p; p is the first one, ascending.
        self.refused(OwnRing("t", 1, "p"), Plan, LOOP, Train("t", 60, *steps))

    def test_the_first_entry_counts(self):
        steps = [Step("west.s.1", [1, 2, 3]), Step("s.west.1", [1, 2])]
        ringless, ring = Train("a", 50, *steps), Train("b", 51, *steps)
        self.refused(OwnRing("b", 1, "p"), Plan, LOOP, ringless, ring, Train("c", 55, *steps))
        twice = Train("t", 1, Step("west.s.1", [1, 2, 3]), *[Step("s.s.1", [1, 2])] * 3)
        self.refused(OwnRing("t", 1, "r"), Plan, RING, twice)

    def test_in_a_chain(self):
        stays = Train("a", 5, Step("west.s.1", [1, 2, 3]))
        self.refused(OwnRing("b", 0, "r"), Plan, RING, stays, Train("b", 5, Step("s.s.1", [1, 2])), turns=[("b", "a", 5)])
        stays = Train("a", 50, Step("west.s.1", [1, 2, 3]))
        plan = Plan(LOOP, stays, Train("b", 50, Step("s.west.1", [1, 2])), turns=[("b", "a", 5)])
        self.same(plan.clear_of(("a", 0), "k"), ("b", 0, 3))

    def test_trains_of_different_chains_do_not_count(self):
        self.assertEqual(len(Plan(LINE, stays_in_y(), stays_in_y("b"))), 2)

    def test_a_flank_that_is_asked_for_otherwise(self):
        # The first step asks f to lie right, as long as the tail is on p; the second one asks it to lie left.
        layout = Layout(track_of("plain w 20; point p 5; plain m 30; point q 5; plain e 20; point f 5;"
                                 "joint e.a q.stem; joint f.left p.right; joint f.right q.right; joint m.a p.left;"
                                 "joint m.b q.left; joint p.stem w.b; border west w.a; border east e.b; signal s m.b"))
        steps = [Step("west.s.1", [1, 2, 3]), Step("s.east.1", [1, 2])]
        self.same(layout.disagreements("west.s.1", "s.east.1"), ["f"])
        self.same(Plan(layout, Train("t", 30, *steps)).clear_of(("t", 0), "f"), ("t", 0, 3))
        self.refused(OwnRing("t", 1, "f"), Plan, layout, Train("t", 31, *steps))


class ClearOfTest(Case):
    def test_within_the_train(self):
        plan = Plan(PLACE, to_east(out=3), to_west(out=3))
        self.same([plan.clear_of(("a", 0), "w"), plan.clear_of(("a", 0), "q"), plan.clear_of(("a", 0), "u"),
                   plan.clear_of(("a", 2), "f"), plan.clear_of(entry=("b", 1), element="e")],
                  [("a", 0, 11), ("a", 0, 11), ("a", 1, 5), ("a", 2, 7), ("b", 1, 11)])

    def test_a_stand(self):
        plan = Plan(LINE, stays_in_y())
        self.same([plan.clear_of(("a", 0), "x"), plan.clear_of(("a", 0), "y")], [("a", 0, 9), None])

    def test_a_stand_out_of_which_another_train_is_made(self):
        plan = Plan(LINE, stays_in_y(), y_to_west(), turns=[("b", "a", 5)])
        self.same([plan.clear_of(("a", 0), "y"), plan.clear_of(("b", 0), "x")], [("b", 0, 7), ("b", 0, 7)])
        short = Plan(LINE, stays_in_y(length=20), y_to_west(length=20), turns=[("b", "a", 5)])
        self.same(short.clear_of(("a", 0), "y"), ("b", 0, 5))

    def test_a_chain_of_three(self):
        plan = chain_of_three()
        self.same([plan.clear_of(("a", 0), "x"), plan.clear_of(("a", 0), "y"), plan.clear_of(("b", 0), "z"),
                   plan.clear_of(("c", 0), "y"), plan.clear_of(("c", 1), "x")],
                  [("a", 0, 9), ("b", 0, 8), ("c", 0, 7), ("c", 1, 10), ("c", 1, 10)])

    def test_a_chain_that_ends_with_a_train_that_stays(self):
        plan = Plan(LINE, stays_in_y(), y_to_z(), turns=[("b", "a", 10)])
        self.same([plan.clear_of(("a", 0), "y"), plan.clear_of(("b", 0), "z")], [("b", 0, 8), None])

    def test_a_flank_that_is_cleared_with_a_stand(self):
        layout = Layout(track_of("plain w 20; point p 9; point q 5; plain e 20; joint e.a p.left; joint p.right q.left;"
                                 "joint p.stem w.b; border west w.a; border east e.b; signal s p.left; signal t p.stem"))
        stays = Train("a", 9, Step("west.s.1", [3, 5]))
        self.same([Plan(layout, stays).clear_of(("a", 0), element) for element in "pqw"], [None, None, ("a", 0, 5)])
        plan = Plan(layout, stays, Train("b", 9, Step("s.east.1", [4]), out=2), turns=[("b", "a", 5)])
        self.same([plan.clear_of(("a", 0), element) for element in "pqw"], [("b", 0, 4), ("b", 0, 4), ("a", 0, 5)])

    def test_unknown_entries_and_elements(self):
        plan = Plan(PLACE, to_east(), to_west())
        for value in ANYTHING + [("a", 3), ("a", -1), ("c", 0), ("a", True), ["a", 0]]:
            self.refused(UnknownEntry(value), plan.clear_of, value, "no element")
            self.refused(UnknownName(value), plan.clear_of, ("a", 0), value)
        for element in ("l", "e", "f", "west"):
            self.refused(UnknownName(element), plan.clear_of, ("a", 0), element)


class QuestionsTest(Case):
    def setUp(self):
        self.plan = chain_of_three()

    def test_layout(self):
        self.assertEqual(self.plan.layout, LINE)
        self.assertEqual(Plan(layout=LINE).layout, LINE)

    def test_trains_and_train_of(self):
        self.same(self.plan.trains(), ["a", "b", "c"])
        self.assertEqual(Plan(LINE, through(), stays_in_y()).trains(), ["d", "a"])
        self.assertEqual(self.plan.train_of("b"), y_to_z())
        self.assertEqual(self.plan.train_of(name="a"), stays_in_y())
        for value in [value for value in ANYTHING if value != "a"] + ["d", "west"]:
            for call in (self.plan.train_of, self.plan.made_of, self.plan.made_into, self.plan.chain):
                self.refused(UnknownName(value), call, value)

    def test_entries_and_their_places(self):
        entries = [("a", 0), ("b", 0), ("c", 0), ("c", 1)]
        self.same(self.plan.entries(), entries)
        self.same([self.plan.place_of(entry) for entry in entries], [0, 1, 2, 3])
        self.same(Plan(LINE, through(), stays_in_y()).entries(), [("d", 0), ("d", 1), ("d", 2), ("a", 0)])
        self.same(Plan(LINE, through(), stays_in_y()).place_of(entry=("a", 0)), 3)

    def test_step_route_and_demand_of(self):
        self.assertEqual(self.plan.step_of(("c", 1)), Step("wy.west.1", [6]))
        self.assertEqual(self.plan.step_of(entry=("a", 0)), Step("west.ey.1", [4, 9]))
        self.assertEqual(self.plan.route_of(("c", 0)), LINE.route_of("wz.wy.1"))
        self.assertEqual(self.plan.route_of(entry=("b", 0)), LINE.route_of("ey.ez.1"))
        self.same(self.plan.demand_of(entry=("a", 0)), [("x", "hold", ""), ("y", "hold", "")])
        self.is_new_list(lambda: self.plan.demand_of(("a", 0)))

    def test_unknown_entries(self):
        for call in (self.plan.step_of, self.plan.route_of, self.plan.demand_of, self.plan.place_of):
            for value in ANYTHING + [("a", 1), ("c", 2), ("c", -1), ("d", 0), ("a", False), ["a", 0], ("a", 0, 0)]:
                self.refused(UnknownEntry(value), call, value)

    def test_turns_and_waits(self):
        self.same(self.plan.turns(), [("b", "a", 10), ("c", "b", 20)])
        self.same(self.plan.waits(), [])
        self.same([self.plan.made_of(name) for name in "abc"], [None, "a", "b"])
        self.same([self.plan.made_into(name) for name in "abc"], ["b", "c", None])
        self.same([self.plan.made_of(name="b"), self.plan.made_into(name="b")], ["a", "c"])

    def test_chain(self):
        self.same([self.plan.chain(name) for name in "abc"], [["a", "b", "c"]] * 3)
        plan = Plan(LINE, through(), stays_in_y(), through("e"), y_to_west(), turns=[("b", "a", 3)])
        self.same([plan.chain(name) for name in "daeb"], [["d"], ["a", "b"], ["e"], ["a", "b"]])
        self.same(plan.chain(name="d"), ["d"])

    def test_turns_in_any_order(self):
        plan = Plan(LINE, stays_in_y(), y_to_z(), z_to_y(), turns=[("c", "b", 20), ("b", "a", 10)])
        self.same([plan.turns(), plan.chain("b")], [[("c", "b", 20), ("b", "a", 10)], ["a", "b", "c"]])

    def test_contains(self):
        for value in ANYTHING + ["d", ("a", 0)]:
            self.assertEqual(value in self.plan, value == "a")
        self.assertIs("b" in self.plan, True)

    def test_length_truth_and_repr(self):
        self.same([len(self.plan), len(Plan(LINE)), bool(self.plan), bool(Plan(LINE))], [3, 0, True, True])
        self.same([repr(self.plan), repr(Plan(LINE)), repr(Plan(LINE, through()))],
                  ["Plan(3 trains)", "Plan(0 trains)", "Plan(1 trains)"])

    def test_lists_are_copied(self):
        turns, waits = [("b", "a", 5)], [("d", 0, "a", 0, 7)]
        plan = Plan(LINE, stays_in_y(), y_to_west(), through(), turns=turns, waits=waits)
        turns.clear()
        waits.clear()
        self.same([plan.turns(), plan.waits()], [[("b", "a", 5)], [("d", 0, "a", 0, 7)]])
        for call in (plan.trains, plan.entries, plan.turns, plan.waits, lambda: plan.chain("a")):
            self.is_new_list(call)


class WithTrainTest(Case):
    def test_the_train_has_the_place_of_the_one_with_its_name(self):
        plan = Plan(LINE, stays_in_y(), y_to_west(), through(), turns=[("b", "a", 5)], waits=[("d", 0, "a", 0, 7)])
        slower = Train("b", 25, Step("wy.west.1", [50]), out=9)
        other = plan.with_train(slower)
        self.assertEqual(other, Plan(LINE, stays_in_y(), slower, through(), turns=[("b", "a", 5)],
                                     waits=[("d", 0, "a", 0, 7)]))
        self.same([other.trains(), other.clear_of(("a", 0), "y")], [["a", "b", "d"], ("b", 0, 59)])
        self.same(plan.clear_of(("a", 0), "y"), ("b", 0, 7))
        self.assertEqual(plan.with_train(train=through()), plan)

    def test_errors(self):
        plan = Plan(LINE, stays_in_y(), y_to_west(), through(), turns=[("b", "a", 5)], waits=[("d", 2, "a", 0, 7)])
        self.refused(UnknownName("e"), plan.with_train, Train("e", 60, Step("no route", [1])))
        self.refused(UnknownName("no route"), plan.with_train, Train("d", 60, Step("no route", [1])))
        self.refused(MisplacedStep("d", 0), plan.with_train, Train("d", 60, Step("west.ey.1", [1])))
        self.refused(InvalidTurn(0), plan.with_train, y_to_west(length=24))
        self.refused(MisplacedStep("d", 0), plan.with_train, Train("d", 25, Step("wy.west.1", [4])))
        self.refused(InvalidWait(0), plan.with_train, Train("d", 5, Step("west.ey.1", [4, 9])))
        loop = Plan(LOOP, Train("t", 50, Step("west.s.1", [1, 2, 3]), Step("s.west.1", [1, 2])))
        self.refused(OwnRing("t", 1, "p"), loop.with_train, loop.train_of("t").longer(1))


class EqualTest(Case):
    def plan(self, layout=LINE, trains=None, turns=(("b", "a", 5),), waits=(("d", 0, "a", 0, 7),)):
        return Plan(layout, *(trains or [stays_in_y(), y_to_west(), through()]), turns=turns, waits=waits)

    def test_equal(self):
        self.assertTrue(self.plan() == self.plan(turns=[("b", "a", 5)]))
        self.assertTrue(self.plan() == self.plan(Layout(track_of(LINE_TEXT))))
        self.assertFalse(self.plan() != self.plan())
        self.assertTrue(Plan(LINE) == Plan(LINE))

    def test_unequal(self):
        for other in (self.plan(Layout(track_of(LINE_TEXT.replace("plain v 20", "plain v 21")))),
                      self.plan(trains=[stays_in_y(), through(), y_to_west()]),
                      self.plan(trains=[stays_in_y(), y_to_west(), through(length=11)]),
                      self.plan(trains=[stays_in_y(), y_to_west(), through(), through("e")]),
                      self.plan(turns=[("b", "a", 6)]), self.plan(waits=[]), self.plan(waits=[("d", 0, "a", 0, 8)]),
                      self.plan(waits=[("d", 0, "a", 0, 7)] * 2)):
            self.assertFalse(self.plan() == other)
            self.assertTrue(self.plan() != other)

    def test_a_plan_equals_nothing_else(self):
        for value in [*ANYTHING, LINE]:
            self.assertFalse(self.plan() == value)


if __name__ == "__main__":
    unittest.main()
