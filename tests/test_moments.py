import random
import unittest

from chances import LINE, PLACE, some_plan, some_row
from helpers import ANYTHING, Case
from oracles import PlainWeb
from ringlessday.errors import InvalidDelays, NoDay, UnknownEntry
from ringlessday.machine import Machine
from ringlessday.moments import Moments, longest
from ringlessday.orders import Table
from ringlessday.plans import Plan
from ringlessday.trains import Step, Train
from ringlessday.webs import Web
from test_machine import A, B

PLAN = Plan(PLACE, A, B)
TABLE = Table(PLAN, [True] * 4)
RING = Table(PLAN, [True, True, True, False])
BAR = Table(Plan(LINE, Train("a", 5, Step("west.ey.1", [1, 2])), Train("b", 5, Step("west.ey.1", [1, 2]))), [True])
NONE = Table(Plan(PLACE), [])
ENTRIES = PLAN.entries()


def some_day(seed, **more):
    """A table without bar and ring, with its web by the definitions, or None."""
    chance = random.Random(seed)
    plan = some_plan(chance, **more)
    table = Table.of_row(plan, some_row(chance, plan))
    return (table, PlainWeb(table)) if Web(table).is_runnable else None


def some_days(many, **more):
    days = [some_day(seed, **more) for seed in range(many)]
    return [day for day in days if day]


def some_delays(chance, plan, most=12):
    return {entry: chance.randrange(most) for entry in plan.entries() if chance.random() < 0.5}


class MomentsTest(Case):
    def test_the_passing_place(self):
        moments = Moments(TABLE)
        self.same([moments.moment(entry) for entry in ENTRIES], [0, 11, 16, 23, 27, 38])
        self.same(moments.moments(), dict(zip(ENTRIES, [0, 11, 16, 23, 27, 38])))
        self.same([moments.moment(entry=("b", 2)), moments.last], [38, 38])
        self.assertEqual(Moments(table=TABLE, delays=None).table, TABLE)

    def test_delays(self):
        moments = Moments(TABLE, {("a", 1): 10, ("b", 0): 4})
        self.same([moments.moment(entry) for entry in ENTRIES], [0, 21, 26, 37, 41, 52])
        self.same(Moments(TABLE, {}).moments(), Moments(TABLE).moments())
        self.same(Moments(TABLE, {("b", 2): 10 ** 6, ("a", 0): 0}).last, 38 + 10 ** 6)
        self.same(Moments(TABLE, {("a", 0): 5, ("a", 1): 0}).moment(("a", 1)), 16)

    def test_public_moments(self):
        late = Train("a", 15, Step("west.su.1", [4, 5, 11], public=7), Step("su.m.1", [1, 5], public=18),
                     Step("m.east.1", [4], public=40), out=3)
        moments = Moments(Table(Plan(PLACE, late, B), [True] * 4), {("a", 2): 2})
        self.same([moments.moment(entry) for entry in ENTRIES], [7, 18, 42, 49, 53, 64])

    def test_no_day_ahead_of_invalid_delays(self):
        for table in (RING, BAR):
            self.refused(NoDay(), Moments, table)
            self.refused(NoDay(), Moments, table, "delays")

    def test_invalid_delays(self):
        for value in [value for value in ANYTHING if value is not None] + [
                {("a", 0): -1}, {("a", 0): 10 ** 6 + 1}, {("a", 0): None}, {("a", 0): True}, {("a", 0): "1"},
                {("a", 0): (1,)}, {("a", 3): 1}, {("c", 0): 1}, {("a", True): 1}, {"a": 1}, {None: 1}, {0: 0}, {True: 1},
                {("a", 0): 1, ("a", 1): -1}, {("a", 0, 0): 1}, {("a",): 1}, [(("a", 0), 1)]]:
            self.refused(InvalidDelays(value), Moments, TABLE, value)
        self.refused(InvalidDelays({("a", 0): 1}), Moments, NONE, {("a", 0): 1})

    def test_delays_that_are_passed_stay(self):
        delays = {("a", 1): 10}
        moments = Moments(TABLE, delays)
        self.same(delays, {("a", 1): 10})
        delays[("a", 0)] = 100
        self.same([moments.moment(("a", 0)), moments.way(("a", 2))],
                  [0, [(("a", 0), ("a", 1), 11, "run"), (("a", 1), ("a", 2), 5, "run")]])
        moments.moments().clear()
        self.same(len(moments.moments()), 6)

    def test_a_plan_without_trains(self):
        moments = Moments(NONE)
        self.same([moments.moments(), moments.last, Moments(NONE, {}).last], [{}, 0, 0])
        self.refused(UnknownEntry(("a", 0)), moments.moment, ("a", 0))

    def test_unknown_entries(self):
        moments = Moments(TABLE)
        for value in ANYTHING + [("a", 3), ("c", 0), ("a", True), ["a", 0]]:
            self.refused(UnknownEntry(value), moments.moment, value)
            self.refused(UnknownEntry(value), moments.way, value)

    def test_last(self):
        early = Train("b", 15, Step("east.n.1", [4]))
        plan = Plan(LINE, Train("a", 5, Step("west.ey.1", [4, 9], public=50)), Train("b", 5, Step("east.wz.1", [4, 9])))
        self.same([Moments(Table(plan, [])).last, Moments(Table(plan, []), {("b", 0): 60}).last], [50, 60])
        self.same(len(early), 1)

    def test_by_the_definitions(self):
        for table, plain in some_days(150):
            chance = random.Random(len(plain.ties))
            for delays in (None, some_delays(chance, table.plan)):
                moments = Moments(table, delays)
                told = {}
                for entry in plain.row():
                    sums = [told[tie[0]] + tie[2] for tie in plain.ties if tie[1] == entry]
                    told[entry] = max([table.plan.step_of(entry).base, *sums]) + (delays or {}).get(entry, 0)
                self.same(moments.moments(), {entry: told[entry] for entry in table.plan.entries()})
                self.same(moments.last, max(told.values(), default=0))


class WayTest(Case):
    def test_ways(self):
        moments = Moments(TABLE)
        self.same([moments.way(("a", 0)), moments.way(entry=("a", 1))], [[], [(("a", 0), ("a", 1), 11, "run")]])
        self.is_new_list(lambda: moments.way(("b", 2)))

    def test_sums_and_delays(self):
        for table, plain in some_days(150):
            delays = some_delays(random.Random(len(plain.ties)), table.plan)
            moments = Moments(table, delays)
            for entry in table.plan.entries():
                way = moments.way(entry)
                self.assertIs(type(way), list)
                self.assertTrue(all(tie in plain.ties for tie in way))
                self.assertTrue(all(one[1] == other[0] for one, other in zip(way, way[1:])))
                self.assertTrue(way == [] or way[-1][1] == entry)
                met = [tie[0] for tie in way] + [entry]
                total = plain.sum_of(table.plan, way, entry) + sum(delays.get(one, 0) for one in met)
                self.same(total, moments.moment(entry))

    def test_the_least_moment_is_the_greatest_sum_of_a_way(self):
        for table, plain in some_days(100, most_trains=3, most_steps=2):
            moments = Moments(table)
            for entry in table.plan.entries():
                sums = [plain.sum_of(table.plan, way, entry) for way in plain.ways(entry)]
                self.same(moments.moment(entry), max(sums))


class SlackTest(Case):
    def test_slack(self):
        moments = Moments(TABLE)
        self.same([moments.slack(tie) for tie in Web(TABLE).ties()], [0, 27, 0, 11, 0, 7, 0, 0])
        late = Moments(TABLE, {("a", 1): 3, ("b", 2): 1})
        self.same([late.slack(tie=tie) for tie in Web(TABLE).ties()], [3, 31, 0, 11, 0, 7, 0, 1])

    def test_any_other_value(self):
        moments = Moments(TABLE)
        tie = (("a", 0), ("a", 1), 11, "run")
        self.same(moments.slack(tie), 0)
        for value in ANYTHING + [list(tie), (*tie[:2], 10, "run"), (*tie[:3], "own"), tie[:3], (*tie, 0),
                                 (("a", False), *tie[1:]), (("a", 0), ("a", True), 11, "run"), (*tie[:2], "11", "run"),
                                 (("a", 1), ("a", 0), 11, "run"), (("b", 1), ("a", 2), 4, "clash"), (None, *tie[1:]),
                                 (["a", 0], *tie[1:]), [tie], (tie,)]:
            self.refused(UnknownEntry(value), moments.slack, value)

    def test_the_weight_is_a_number(self):
        train = Train("a", 5, Step("west.ey.1", [1, 2]), Step("ey.ez.1", [1]), Step("ez.east.1", [4]))
        moments = Moments(Table(Plan(LINE, train), []))
        self.same(moments.slack((("a", 1), ("a", 2), 1, "run")), 0)
        wrong = (("a", 1), ("a", 2), True, "run")
        self.refused(UnknownEntry(wrong), moments.slack, wrong)


class LongestTest(Case):
    def test_longest(self):
        self.same([longest(TABLE, ("a", 0), ("b", 2)), longest(TABLE, ("a", 1), ("b", 1)), longest(TABLE, ("b", 0), ("a", 0)),
                   longest(table=TABLE, one=("a", 2), other=("a", 2)), longest(TABLE, ("a", 0), ("a", 1))],
                  [38, 16, None, 0, 11])

    def test_public_moments_are_left_aside(self):
        late = Train("a", 15, Step("west.su.1", [4, 5, 11]), Step("su.m.1", [1, 5], public=100))
        self.same(longest(Table(Plan(PLACE, late), []), ("a", 0), ("a", 1)), 11)

    def test_errors(self):
        for table in (RING, BAR):
            self.refused(NoDay(), longest, table, "a", None)
        for value in ANYTHING + [("a", 3), ("a", True)]:
            self.refused(UnknownEntry(value), longest, TABLE, value, "no entry")
            self.refused(UnknownEntry(value), longest, TABLE, ("a", 0), value)
        self.refused(UnknownEntry(("a", 0)), longest, NONE, ("a", 0), ("a", 0))

    def test_by_the_definition(self):
        for table, plain in some_days(80, most_trains=3, most_steps=2):
            for other in table.plan.entries():
                ways = plain.ways(other)
                for one in table.plan.entries():
                    sums = [sum(tie[2] for tie in way) for way in ways if way and way[0][0] == one]
                    self.same(longest(table, one, other), max(sums + [0] if one == other else sums, default=None))


class FactsTest(Case):
    def test_every_ask_at_its_moment_is_granted(self):
        for table, plain in some_days(200):
            plan = table.plan
            delays = some_delays(random.Random(len(plain.ties)), plan)
            for moments in (Moments(table), Moments(table, delays)):
                self.run_day(plan, moments.moments())

    def run_day(self, plan, moments):
        """Asks for each entry at its moment, with all moves up to this moment ahead of it."""
        deeds = []
        for entry in plan.entries():
            step, train = plan.step_of(entry), plan.train_of(entry[0])
            times = step.times() + ([step.arrival + train.out] if plan.route_of(entry).leaves else [])
            deeds.append((moments[entry], 1, entry[1], "ask", entry[0]))
            deeds += [(moments[entry] + time, 0, at, "move", entry[0]) for at, time in enumerate(times)]
        machine = Machine(plan)
        for deed in sorted(deeds):
            machine.deeds(deed[3:])
        self.same(machine.is_over, True)


if __name__ == "__main__":
    unittest.main()
