import random
import unittest
from fractions import Fraction
from itertools import combinations

from chances import LINE, PLACE, SHORT, STAND_ON_POINT, some_plan
from helpers import ANYTHING, Case, track_of
from oracles import PlainWeb, chains_differ, disagreements, table_pairs
from ringlessday.errors import InvalidHeights, InvalidPeriod, NeverCleared, NoPeriod, TooShort
from ringlessday.layouts import Layout
from ringlessday.orders import Table, pairs
from ringlessday.plans import Plan
from ringlessday.ratios import Ratio
from ringlessday.rounds import RoundWeb
from ringlessday.trains import Step, Train
from test_machine import A, B, BACK, STAYS

PLAN = Plan(PLACE, A, B)
A0, A1, A2, B0, B1, B2 = PLAN.entries()
# As in the table in which a goes first everywhere.
FIRST = RoundWeb(PLAN, [0, 0, 0, 0])
SHUTTLE = Plan(LINE, STAYS, BACK, turns=[("b", "a", 5)])
NO_PERIODS = [value for value in ANYTHING if type(value) is not int or value <= 0] + [
    Ratio(0), Ratio(-1), Ratio(-7, 2), "7/2", (7, 2), -1, -10 ** 9, 1.5]


# Three lines, each of which crosses both others.
TRIANGLE = Layout(track_of("plain ab 9; plain ae 9; plain bb 9; plain be 9; plain cb 9; plain ce 9; crossing x 2;"
                           "crossing y 2; crossing z 2; joint ab.b z.c; joint ae.a x.b; joint bb.b x.c; joint be.a y.b;"
                           "joint cb.b y.c; joint ce.a z.b; joint x.a z.d; joint x.d y.a; joint y.d z.a; border awest ab.a;"
                           "border aeast ae.b; border bwest bb.a; border beast be.b; border cwest cb.a; border ceast ce.b"))


def round_about(*times):
    """A plan of three trains of the triangle, which need the times for their last sections and the ones ahead."""
    return Plan(TRIANGLE, *[Train(name, 1, Step(f"{name}west.{name}east.1", [time - 3, time - 2, time - 1, last]))
                            for name, (time, last) in zip("abc", times)])


def plain_ties(plan, heights):
    """The turning ties of a plan, by their definition."""
    found = {(*tie[:3], 0, tie[3]) for tie in PlainWeb(Table(plan, [True] * len(table_pairs(plan)))).ties if tie[3] != "clash"}
    for entry in plan.entries():
        for element, use, _ in plan.demand_of(entry):
            if use == "hold":
                train, step, time = plan.clear_of(entry, element)
                found.add(((train, step), entry, time, 1, "again"))
    for one, other in combinations(plan.entries(), 2):
        if not chains_differ(plan, one, other):
            for element in disagreements(plan.demand_of(one), plan.demand_of(other)):
                train, step, time = plan.clear_of(other, element)
                found.add(((train, step), one, time, 1, "again"))
    for (one, other), height in zip(table_pairs(plan), heights):
        for element in disagreements(plan.demand_of(one), plan.demand_of(other)):
            train, step, time = plan.clear_of(one, element)
            found.add(((train, step), other, time, height, "clash"))
            train, step, time = plan.clear_of(other, element)
            found.add(((train, step), one, time, 1 - height, "clash"))
    return sorted(found)


def rings_of(ties, most=3000):
    """All rings of turning ties, or None if there are too many."""
    found = []

    def go(ring):
        for tie in ties:
            if tie[0] == ring[-1][1] and len(found) <= most:
                if tie[1] == ring[0][0]:
                    found.append(ring + [tie])
                elif tie[1] > ring[0][0] and tie[1] not in [row[0] for row in ring + [tie]]:
                    go(ring + [tie])

    for tie in ties:
        if tie[1] >= tie[0]:
            found += [[tie]] if tie[0] == tie[1] else []
            if tie[1] > tie[0]:
                go([tie])
    return found if len(found) <= most else None


def sum_and_height(ring):
    return sum(tie[2] for tie in ring), sum(tie[3] for tie in ring)


def comes_again(plan):
    return all(plan.clear_of(entry, row[0]) is not None for entry in plan.entries() for row in plan.demand_of(entry))


def some_heights(chance, plan):
    many = len(table_pairs(plan))
    if chance.random() < 0.5:
        turned = chance.choice([0, 1])
        return [turned] * many
    return [chance.choice([0, 0, 0, 1, 1, 1, 2, -1, chance.randint(-6, 6)]) for _ in range(many)]


def triangle_rounds(many):
    """The same of the triangle, in which rings of greater heights count."""
    found = []
    for seed in range(many):
        chance = random.Random(seed)
        times = [(chance.randint(4, 9), chance.randint(10, 40)) for _ in range(3)]
        plan = round_about(*times)
        heights = [chance.choice([0, 0, 1, -1, 2]) for _ in range(3)]
        ties = plain_ties(plan, heights)
        found.append((RoundWeb(plan, heights), ties, rings_of(ties)))
    return found


def small_rounds(many):
    """Tuples (web, its ties, all its rings) of small plans."""
    found = triangle_rounds(many // 2)
    for seed in range(many):
        chance = random.Random(seed)
        plan = some_plan(chance, most_trains=3, most_steps=2)
        if 1 <= len(plan.entries()) <= 6 and comes_again(plan):
            heights = some_heights(chance, plan)
            ties = plain_ties(plan, heights)
            rings = rings_of(ties)
            if rings is not None:
                found.append((RoundWeb(plan, heights), ties, rings))
    return found


class TiesTest(Case):
    def test_one_train(self):
        plan = Plan(LINE, Train("a", 5, Step("west.ey.1", [1, 3], stop=2), Step("ey.ez.1", [4]), Step("ez.east.1", [6]), out=2))
        self.same(RoundWeb(plan, []).ties(), [
            (("a", 0), ("a", 0), 3, 1, "again"), (("a", 0), ("a", 1), 5, 0, "run"), (("a", 1), ("a", 0), 4, 1, "again"),
            (("a", 1), ("a", 2), 4, 0, "run"), (("a", 2), ("a", 1), 6, 1, "again"), (("a", 2), ("a", 2), 8, 1, "again")])

    def test_the_passing_place(self):
        ties = FIRST.ties()
        # The height 0: a goes ahead of b in each round, and b in each round ahead of a in the next one.
        self.assertIn((A2, B0, 7, 0, "clash"), ties)
        self.assertIn((B1, A2, 4, 1, "clash"), ties)
        turned = RoundWeb(PLAN, [0, 0, 0, -6]).ties()
        self.assertTrue((A2, B0, 7, -6, "clash") in turned and (B1, A2, 4, 7, "clash") in turned)
        turned = RoundWeb(plan=PLAN, heights=(0, 0, 0, 6)).ties()
        self.assertTrue((A2, B0, 7, 6, "clash") in turned and (B1, A2, 4, -5, "clash") in turned)

    def test_trains_of_one_chain(self):
        # The next a comes to x behind its own clear and that of b, and to y behind the clear of the stand that b took over.
        self.same(RoundWeb(SHUTTLE, []).ties(), [
            (("a", 0), ("a", 0), 9, 1, "again"), (("a", 0), ("b", 0), 9, 0, "own"), (("a", 0), ("b", 0), 14, 0, "turn"),
            (("b", 0), ("a", 0), 7, 1, "again"), (("b", 0), ("b", 0), 7, 1, "again")])

    def test_waits(self):
        plan = Plan(PLACE, A, B, waits=[("a", 1, "b", 2, 4)])
        self.assertIn((B2, A1, 9, 0, "wait"), RoundWeb(plan, [0, 0, 0, 0]).ties())

    def test_by_the_definition(self):
        reasons, told = set(), 0
        for seed in range(250):
            chance = random.Random(seed)
            plan = some_plan(chance)
            if comes_again(plan):
                heights = some_heights(chance, plan)
                ties = plain_ties(plan, heights)
                self.same(RoundWeb(plan, heights).ties(), ties)
                reasons |= {(tie[4], tie[3]) for tie in ties}
                told += any(tie[4] == "own" for tie in ties)
        self.assertTrue({("run", 0), ("turn", 0), ("wait", 0), ("own", 0), ("again", 1), ("clash", 0), ("clash", 1),
                         ("clash", -1), ("clash", 2)} <= reasons)
        self.assertGreater(told, 10)

    def test_each_once_and_ascending(self):
        for web, ties, _ in small_rounds(60):
            self.same(web.ties(), sorted(set(ties)))


class HeightsTest(Case):
    def test_wrong_heights(self):
        for value in ANYTHING + [[0, 0, 0], [0] * 5, [0, 0, 0, 7], [0, 0, 0, -7], [0, 0, 0, True], [False, 0, 0, 0],
                                 [0, None, 0, 0], [0, 0, "0", 0], [0, 0, 0, [0]], [0, 0, 0, (0,)], {0: 0}, "0000",
                                 [10 ** 9, 0, 0, 0]]:
            self.refused(InvalidHeights(value), RoundWeb, PLAN, value)

    def test_both_edges(self):
        self.same(RoundWeb(PLAN, [6, -6, 6, -6]).heights(), [6, -6, 6, -6])
        self.same(RoundWeb(Plan(PLACE), ()).heights(), [])

    def test_heights_ahead_of_never_cleared(self):
        stays = Train("b", 15, Step("west.sl.1", [4, 5, 11]))
        plan = Plan(PLACE, A, stays)
        self.refused(InvalidHeights([]), RoundWeb, plan, [])
        self.refused(NeverCleared("b", 0, "l"), RoundWeb, plan, [0] * len(pairs(plan)))

    def test_the_first_element_that_is_never_cleared(self):
        plan = Plan(LINE, Train("a", 30, Step("west.ey.1", [1, 2])))
        self.refused(NeverCleared("a", 0, "y"), RoundWeb, plan, [])
        plan = Plan(SHORT, Train("b", 10, Step("west.ey.1", [1, 2]), Step("ey.ez.1", [3]), Step("ez.eo.1", [4])))
        self.refused(NeverCleared("b", 2, "o"), RoundWeb, plan, [])
        # It stands on a point, whose flank is never cleared with it.
        plan = Plan(STAND_ON_POINT, Train("a", 9, Step("west.s.1", [3, 5])))
        self.refused(NeverCleared("a", 0, "p"), RoundWeb, plan, [])
        plan = Plan(STAND_ON_POINT, Train("c", 9, Step("east.t.1", [3, 5])))
        self.refused(NeverCleared("c", 0, "p"), RoundWeb, plan, [])

    def test_the_first_entry_in_the_order_of_the_plan(self):
        for seed in range(200):
            plan = some_plan(random.Random(seed))
            never = [(entry, row[0]) for entry in plan.entries() for row in plan.demand_of(entry)
                     if plan.clear_of(entry, row[0]) is None]
            if never:
                (train, step), element = never[0]
                self.refused(NeverCleared(train, step, element), RoundWeb, plan, [0] * len(table_pairs(plan)))

    def test_what_is_passed_and_told_is_copied(self):
        heights = [0, 0, 0, 0]
        web = RoundWeb(PLAN, heights)
        heights[0] = 5
        self.same([web.heights(), heights], [[0, 0, 0, 0], [5, 0, 0, 0]])
        self.is_new_list(web.heights)
        self.is_new_list(web.ties)
        self.is_new_list(web.critical)
        self.is_new_list(lambda: web.ring_above(1))
        web.moments(1000).clear()
        self.same(len(web.moments(1000)), 6)
        self.assertEqual(web.plan, PLAN)


class PeriodTest(Case):
    def test_the_passing_place(self):
        # Both run one behind the other, at 0, 11, 16, 23, 27 and 38, and the next a follows as soon as w is free, 8 later.
        self.same([FIRST.least(), FIRST.bar(), sum_and_height(FIRST.critical())], [Ratio(46), None, (46, 1)])
        self.same([FIRST.fits(46), FIRST.fits(45), FIRST.fits(Ratio(91, 2)), FIRST.fits(Ratio(93, 2)), FIRST.fits(10 ** 9)],
                  [True, False, False, True, True])
        self.same(FIRST.moments(46), {entry: Ratio(moment) for entry, moment in
                                      zip(PLAN.entries(), [0, 11, 16, 23, 27, 38])})

    def test_a_ring_that_goes_through_two_rounds(self):
        web = RoundWeb(round_about((4, 21), (4, 20), (4, 20)), [0, -1, 0])
        self.same([web.least(), sum_and_height(web.critical())], [Ratio(61, 2), (61, 2)])
        self.same([web.fits(Ratio(61, 2)), web.fits(31), web.fits(30), web.fits(Ratio(121, 4))], [True, True, False, False])
        self.same(web.moments(Ratio(61, 2)), {("a", 0): Ratio(0), ("b", 0): Ratio(21), ("c", 0): Ratio(41)})
        self.same(RoundWeb(round_about((4, 21), (4, 20), (4, 20)), [0, 0, 0]).least(), Ratio(61))

    def test_a_plan_without_trains(self):
        web = RoundWeb(Plan(PLACE), [])
        self.same([web.ties(), web.bar(), web.least(), web.critical(), web.fits(1), web.fits(Ratio(1, 9)), web.moments(3),
                   web.ring_above(1), web.is_ring([])], [[], None, Ratio(0), None, True, True, {}, None, False])

    def test_a_bar(self):
        web = RoundWeb(PLAN, [0, 0, 0, 1])
        self.is_bar(web, web.bar())
        for call in (web.least, web.critical):
            self.refused(NoPeriod(), call)
        for period in (1, 10 ** 9, Ratio(10 ** 9, 7)):
            self.same(web.fits(period), False)
            self.refused(TooShort(period), web.moments, period)
            self.is_above(web, web.ring_above(period), period)
        self.is_new_list(web.bar)

    def is_bar(self, web, ring):
        self.is_right(web, ring)
        self.assertLessEqual(sum_and_height(ring)[1], 0)

    def is_right(self, web, ring):
        """A ring by its definition, and by is_ring."""
        self.assertIs(type(ring), list)
        self.assertTrue(ring and all(tie in web.ties() for tie in ring))
        self.assertTrue(all(one[1] == other[0] for one, other in zip(ring, ring[1:] + ring[:1])))
        self.same(len({tie[0] for tie in ring}), len(ring))
        self.assertIs(web.is_ring(ring), True)

    def is_above(self, web, ring, period):
        self.is_right(web, ring)
        total, height = sum_and_height(ring)
        limit = Fraction(period.top, period.bottom) if isinstance(period, Ratio) else period
        self.assertGreater(total, limit * height)

    def test_against_all_rings(self):
        told = [0, 0]
        fractions = 0
        for web, _, rings in small_rounds(500):
            sums = [sum_and_height(ring) for ring in rings]
            bars = [ring for ring, (_, height) in zip(rings, sums) if height <= 0]
            told[bars == []] += 1
            if bars:
                self.is_bar(web, web.bar())
                self.refused(NoPeriod(), web.least)
                self.refused(NoPeriod(), web.critical)
                self.same(web.fits(10 ** 9), False)
                continue
            self.same(web.bar(), None)
            least = max(Fraction(total, height) for total, height in sums)
            fractions += least.denominator > 1
            self.same(web.least(), Ratio(least.numerator, least.denominator))
            total, height = sum_and_height(web.critical())
            self.same(Fraction(total, height), least)
            self.is_right(web, web.critical())
            self.look_at_periods(web, least)
        self.assertTrue(min(told) > 20 and fractions > 3, (told, fractions))

    def look_at_periods(self, web, least):
        for more in (Fraction(0), Fraction(1, 3), Fraction(-1, 7), Fraction(5), -least / 2):
            period = Ratio((least + more).numerator, (least + more).denominator)
            if least + more <= 0:
                continue
            fits = more >= 0
            self.same(web.fits(period), fits)
            if fits:
                self.same(web.ring_above(period), None)
                self.look_at_moments(web, period)
            else:
                self.is_above(web, web.ring_above(period), period)
                self.refused(TooShort(period), web.moments, period)

    def look_at_moments(self, web, period):
        """The moments keep all ties, and each one is 0 or just as late as a tie asks for."""
        exact = Fraction(period.top, period.bottom)
        found = web.moments(period)
        self.same(list(found), web.plan.entries())
        moments = {}
        for entry, moment in found.items():
            self.assertIs(type(moment), Ratio)
            moments[entry] = Fraction(moment.top, moment.bottom)
        self.assertTrue(all(moments[y] + height * exact >= moments[x] + weight for x, y, weight, height, _ in web.ties()))
        self.same(moments, self.least_moments(web, exact))

    def least_moments(self, web, exact):
        moments = {entry: Fraction(0) for entry in web.plan.entries()}
        for _ in moments:
            for x, y, weight, height, _ in web.ties():
                moments[y] = max(moments[y], moments[x] + weight - height * exact)
        return moments

    def test_numbers_as_periods(self):
        web = RoundWeb(SHUTTLE, [])
        self.same([web.least(), web.fits(period=21), web.fits(20), web.fits(Ratio(21)), web.moments(period=21),
                   web.ring_above(period=21)],
                  [Ratio(21), True, False, True, {("a", 0): Ratio(0), ("b", 0): Ratio(14)}, None])
        self.refused(TooShort(20), web.moments, 20)
        self.is_above(web, web.ring_above(20), 20)

    def test_invalid_periods(self):
        for web in (FIRST, RoundWeb(PLAN, [0, 0, 0, 1]), RoundWeb(Plan(PLACE), [])):
            for value in NO_PERIODS:
                for call in (web.fits, web.moments, web.ring_above):
                    self.refused(InvalidPeriod(value), call, value)
        self.same(FIRST.fits(10 ** 40), True)

    def test_public_moments_are_left_aside(self):
        late = Train("a", 15, Step("west.su.1", [4, 5, 11], public=100), Step("su.m.1", [1, 5]),
                     Step("m.east.1", [4], public=500), out=3)
        web = RoundWeb(Plan(PLACE, late, B), [0, 0, 0, 0])
        self.same([web.ties(), web.moments(50)], [FIRST.ties(), FIRST.moments(50)])


class RingTest(Case):
    RING = [(A0, A1, 11, 0, "run"), (A1, A0, 5, 1, "again")]

    def test_right_rings(self):
        self.same([FIRST.is_ring(self.RING), FIRST.is_ring(self.RING[::-1]), FIRST.is_ring(value=tuple(self.RING)),
                   FIRST.is_ring([(A0, A0, 11, 1, "again")])], [True] * 4)
        for web, _, rings in small_rounds(60):
            self.assertTrue(all(web.is_ring(ring) for ring in rings))

    def test_changed_rings(self):
        one, other = self.RING
        for value in ([], [one], [other], self.RING * 2, self.RING + [one], [one, one], [list(one), other], [one, None],
                      [(*one[:2], 10, 0, "run"), other], [(*one[:3], 1, "run"), other], [(*one[:4], "own"), other],
                      [one[:4], other], [(*one, 0), other], [(*one[:3], False, "run"), other], [one, (*other[:3], True, "again")],
                      [(("a", False), *one[1:]), other], [(A0, ("a", True), *one[2:]), other], [(A0, ["a", 1], *one[2:]), other],
                      [(*one[:2], "11", 0, "run"), other], [(None, *one[1:]), other],
                      [one, (*other[:4], ["again"])], [one, (*other[:4], None)], {one: other}, (one, [other])):
            self.same(FIRST.is_ring(value), False)

    def test_a_weight_that_is_no_number(self):
        plan = Plan(LINE, Train("a", 5, Step("west.ey.1", [1, 2]), Step("ey.ez.1", [1]), Step("ez.east.1", [4])))
        web = RoundWeb(plan, [])
        ring = [(("a", 1), ("a", 0), 1, 1, "again"), (("a", 0), ("a", 1), 2, 0, "run")]
        self.same([web.is_ring(ring), web.is_ring([(("a", 1), ("a", 0), True, 1, "again"), ring[1]])], [True, False])

    def test_other_values(self):
        for value in ANYTHING + [[value] for value in ANYTHING] + [{}, "ring"]:
            self.same(FIRST.is_ring(value), False)

    def test_no_entry_twice(self):
        plan = Plan(LINE, Train("a", 5, Step("west.ey.1", [1, 2]), Step("ey.ez.1", [3]), Step("ez.east.1", [4])))
        web = RoundWeb(plan, [])
        loop = (("a", 0), ("a", 0), 2, 1, "again")
        there, back = (("a", 0), ("a", 1), 2, 0, "run"), (("a", 1), ("a", 0), 3, 1, "again")
        self.same([web.is_ring([loop]), web.is_ring([there, back]), web.is_ring([loop, there, back])], [True, True, False])


if __name__ == "__main__":
    unittest.main()
