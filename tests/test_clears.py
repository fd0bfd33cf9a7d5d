import random
import unittest

from helpers import PASSING_PLACE, Case, track_of
from ringlessday.clears import clear_of_stand, clear_within, distances
from ringlessday.layouts import Layout
from ringlessday.tracktext import read_track
from ringlessday.trains import Step, Train

# The sections of the example under [12]; a second signal at w.a is for trains to the west.
LINE = Layout(track_of("plain x 20; plain y 10; plain z 30; plain w 20; joint w.a z.b; joint x.b y.a; joint y.b z.a;"
                       "border west x.a; border east w.b; signal s z.b"))
PLACE = Layout(read_track(PASSING_PLACE))
# A train can stay on the point p; its route asks for the flank q from there.
ON_POINT = Layout(track_of("plain w 20; point p 9; point q 5; plain e 20; joint e.a p.left; joint p.right q.left;"
                           "joint p.stem w.b; border west w.a; border east e.b; signal s p.left; signal t p.stem"))


def line_train(length, out=7):
    return Train("t", length, Step("west.s.1", [4, 6, 12]), Step("s.east.1", [5]), out=out)


def staying(length):
    return Train("t", length, Step("west.s.1", [4, 6, 12]))


def clears(layout, train):
    return [[(row[0], clear_within(layout, train, at, row[0])) for row in layout.route_of(step.route).demand()]
            for at, step in enumerate(train.steps())]


class DistancesTest(Case):
    def test_the_example(self):
        self.same(distances(LINE, line_train(25)), [[20, 30, 60], [80]])
        self.same(distances(layout=LINE, train=staying(5)), [[20, 30, 60]])

    def test_three_steps(self):
        train = Train("a", 15, Step("west.su.1", [4, 5, 11]), Step("su.m.1", [1, 5]), Step("m.east.1", [4]), out=3)
        self.same(distances(PLACE, train), [[20, 25, 55], [60, 80], [100]])

    def test_lists_are_new(self):
        train = line_train(25)
        first = distances(LINE, train)
        first[0].append(1)
        first.append(2)
        self.same(distances(LINE, train), [[20, 30, 60], [80]])


class ClearWithinTest(Case):
    def test_the_example(self):
        self.same(clears(LINE, line_train(25)), [[("x", (0, 12)), ("y", (0, 12)), ("z", (1, 12))], [("w", (1, 12))]])

    def test_by_the_names_of_the_parameters(self):
        self.same(clear_within(layout=LINE, train=line_train(25), step=0, element="x"), (0, 12))

    def test_short_trains_that_leave(self):
        self.same(clears(LINE, line_train(1)), [[("x", (0, 6)), ("y", (0, 12)), ("z", (1, 5))], [("w", (1, 12))]])

    def test_trains_just_as_long_as_sections(self):
        self.same(clears(LINE, line_train(10)), [[("x", (0, 6)), ("y", (0, 12)), ("z", (1, 5))], [("w", (1, 12))]])
        self.same(clears(LINE, line_train(11)), [[("x", (0, 12)), ("y", (0, 12)), ("z", (1, 5))], [("w", (1, 12))]])
        self.same(clears(LINE, line_train(20)), [[("x", (0, 12)), ("y", (0, 12)), ("z", (1, 5))], [("w", (1, 12))]])
        self.same(clears(LINE, line_train(21)), [[("x", (0, 12)), ("y", (0, 12)), ("z", (1, 12))], [("w", (1, 12))]])
        self.same(clears(LINE, line_train(30)), [[("x", (0, 12)), ("y", (0, 12)), ("z", (1, 12))], [("w", (1, 12))]])

    def test_trains_longer_than_several_sections(self):
        self.same(clears(LINE, line_train(40)), [[("x", (0, 12)), ("y", (1, 5)), ("z", (1, 12))], [("w", (1, 12))]])
        self.same(clears(LINE, line_train(41)), [[("x", (1, 5)), ("y", (1, 5)), ("z", (1, 12))], [("w", (1, 12))]])
        self.same(clears(LINE, line_train(51)), [[("x", (1, 5)), ("y", (1, 12)), ("z", (1, 12))], [("w", (1, 12))]])
        self.same(clears(LINE, line_train(60)), [[("x", (1, 5)), ("y", (1, 12)), ("z", (1, 12))], [("w", (1, 12))]])

    def test_out_counts_from_the_arrival(self):
        self.same(clear_within(LINE, line_train(60, out=1), 1, "w"), (1, 6))
        self.same(clear_within(LINE, line_train(1, out=10 ** 6), 1, "w"), (1, 5 + 10 ** 6))

    def test_trains_that_stay(self):
        self.same(clears(LINE, staying(1)), [[("x", (0, 6)), ("y", (0, 12)), ("z", None)]])
        self.same(clears(LINE, staying(11)), [[("x", (0, 12)), ("y", (0, 12)), ("z", None)]])
        self.same(clears(LINE, staying(30)), [[("x", (0, 12)), ("y", (0, 12)), ("z", None)]])

    def test_flanks_are_cleared_with_the_point_that_asks(self):
        train = Train("a", 15, Step("west.su.1", [4, 5, 11]), Step("su.m.1", [1, 5]), Step("m.east.1", [4]), out=3)
        self.same(clears(PLACE, train), [
            [("p", (0, 11)), ("q", (0, 11)), ("u", (1, 5)), ("w", (0, 11))],
            [("e", (2, 4)), ("p", (1, 5)), ("q", (1, 5))], [("f", (2, 7))]])
        # The flank q of the first step is cleared with p, at the far end of q in the second step.
        longer = Train("a", 35, Step("west.su.1", [4, 5, 11]), Step("su.m.1", [1, 5]), Step("m.east.1", [4]), out=3)
        self.same(clears(PLACE, longer)[0], [("p", (1, 1)), ("q", (1, 1)), ("u", (2, 4)), ("w", (0, 11))])

    def test_a_flank_that_is_cleared_with_a_stand(self):
        train = Train("t", 9, Step("west.s.1", [3, 5]))
        self.same(clears(ON_POINT, train), [[("p", None), ("q", None), ("w", (0, 5))]])

    def test_a_section_that_is_run_over_twice(self):
        layout = Layout(track_of("plain w 20; point p 5; plain r 40; joint p.left r.b; joint p.right w.b; joint p.stem r.a;"
                                 "border west w.a; signal s r.b; signal t r.a"))
        train = Train("t", 30, Step("west.s.1", [4, 5, 9]), Step("s.s.1", [1, 5]))
        self.same(distances(layout, train), [[20, 25, 65], [70, 110]])
        self.same(clears(layout, train), [[("p", (0, 9)), ("r", (1, 5)), ("w", (0, 9))], [("p", (1, 5)), ("r", None)]])

    def test_trains_at_random_against_the_places_of_their_tails(self):
        chance = random.Random(2)
        for _ in range(200):
            lengths = [chance.randrange(1, 51) for _ in range(4)]
            names = "xyzw"
            sections = ";".join(f"plain {name} {length}" for name, length in zip(names, lengths))
            layout = Layout(track_of(sections + "; joint w.a z.b; joint x.b y.a; joint y.b z.a; border west x.a;"
                                     "border east w.b; signal s z.b"))
            length = chance.randrange(1, 61)
            train = line_train(length)
            times = [(0, 4), (0, 6), (0, 12), (1, 5)]
            for at, name in enumerate(names):
                tails = [time for upto, time in enumerate(times, 1) if sum(lengths[:upto]) - length >= sum(lengths[:at + 1])]
                wanted = tails[0] if tails else (1, 12)
                self.same(clear_within(layout, train, at // 3, name), wanted)


class ClearOfStandTest(Case):
    def test_by_the_first_far_end_that_is_far_enough(self):
        wanted = {1: (0, 4), 20: (0, 4), 21: (0, 6), 30: (0, 6), 31: (0, 12), 60: (0, 12)}
        for length, clear in wanted.items():
            self.same(clear_of_stand(LINE, line_train(length)), clear)
        self.same(clear_of_stand(layout=LINE, train=staying(30)), (0, 6))

    def test_with_a_later_step_or_out_of_the_area(self):
        train = Train("t", 50, Step("s.east.1", [5]), out=3)
        self.same(clear_of_stand(LINE, train), (0, 8))
        self.same(clear_of_stand(LINE, Train("t", 20, Step("s.east.1", [5]), out=3)), (0, 5))
        two = Train("t", 26, Step("su.m.1", [1, 5]), Step("m.east.1", [4]))
        self.same(clear_of_stand(PLACE, two), (1, 4))


if __name__ == "__main__":
    unittest.main()
