import random
import unittest

from chances import LINE, PLACE, led_days
from helpers import ANYTHING, Case
from oracles import PlainWeb, all_delays, late_ones, plain_moments
from ringlessday.errors import InvalidDelays, InvalidNumber, NoDay, UnknownEntry
from ringlessday.lateness import keeps, latest, worst
from ringlessday.moments import Moments
from ringlessday.orders import Table
from ringlessday.plans import Plan
from ringlessday.trains import Step, Train
from test_moments import BAR, NONE, RING, TABLE

ENTRIES = TABLE.plan.entries()
FEW = {("a", 1): 10, ("b", 0): 4}
# Values that are no delays of entries of the passing place.
NO_DELAYS = [value for value in ANYTHING if value is not None] + [
    {("a", 0): -1}, {("a", 0): 10 ** 6 + 1}, {("a", 0): None}, {("a", 0): True}, {("a", 0): False}, {("a", 0): "1"},
    {("a", 0): (1,)}, {("a", 0): [1]}, {("a", 3): 1}, {("c", 0): 1}, {("a", True): 1}, {("a", False): 1}, {"a": 1},
    {None: 1}, {0: 0}, {("a", 0): 1, ("a", 1): -1}, {("a", 0, 0): 1}, {("a",): 1}, [(("a", 0), 1)]]
NO_ENTRIES = ANYTHING + [("a", 3), ("c", 0), ("a", True), ["a", 0], "a.0", (("a", 0),)]
NO_COUNTS = [value for value in ANYTHING if type(value) is not int or not 0 <= value <= 36] + [-1, 37, 10 ** 9]


def some_bounds(chance, plan, most=3):
    return {entry: chance.randrange(most) for entry in plan.entries() if chance.random() < 0.8}


def small_days(many, **more):
    return [(table, PlainWeb(table)) for table in led_days(many, 6, **more)]


class LatestTest(Case):
    def test_the_passing_place(self):
        self.same([latest(TABLE, ("b", 2), FEW), latest(TABLE, ("b", 2), FEW, late=2), latest(TABLE, ("b", 2), FEW, late=0),
                   latest(TABLE, ("b", 2), FEW, late=36), latest(TABLE, ("b", 2), {}, late=3)], [48, 52, 38, 52, 38])
        self.same([latest(TABLE, ("a", 1), FEW), latest(TABLE, ("a", 0), FEW), latest(TABLE, ("b", 0), FEW),
                   latest(TABLE, ("b", 0), FEW, late=2)], [21, 0, 33, 37])

    def test_by_trains(self):
        both = {("a", 0): 3, ("a", 1): 10, ("a", 2): 0, ("b", 0): 4, ("b", 1): 5, ("b", 2): 6}
        for late, moment in ((0, 38), (1, 53), (2, 66), (3, 66), (36, 66)):
            self.same(latest(TABLE, ("b", 2), both, late=late, of="trains"), moment)
        for late, moment in ((0, 38), (1, 48), (2, 54), (3, 59), (4, 63), (5, 66), (6, 66), (36, 66)):
            self.same(latest(TABLE, ("b", 2), both, late=late, of="steps"), moment)
        self.same(latest(TABLE, ("a", 2), both, of="trains"), 29)

    def test_a_train_with_no_entry_on_the_way(self):
        table = Table(Plan(LINE, Train("a", 5, Step("west.ey.1", [1, 2], public=1)), Train("b", 5, Step("east.wz.1", [1, 2]))), [])
        self.same([latest(table, ("a", 0), {("b", 0): 9}, of=of) for of in ("steps", "trains")], [1, 1])
        self.same([latest(table, ("b", 0), {("b", 0): 9}), worst(table, ("a", 0), {("b", 0): 9})], [9, {}])

    def test_the_greatest_bounds(self):
        self.same(latest(TABLE, ("b", 2), {entry: 10 ** 6 for entry in ENTRIES}, late=36), 38 + 6 * 10 ** 6)
        self.same(latest(TABLE, ("b", 2), {entry: 0 for entry in ENTRIES}, late=36), 38)

    def test_against_all_delays(self):
        told = 0
        for table, plain in small_days(80):
            bounds = some_bounds(random.Random(len(plain.ties)), table.plan)
            days = [(delays, plain_moments(table, plain, delays)) for delays in all_delays(bounds)]
            for of in ("steps", "trains"):
                for late in (0, 1, 2, len(plain.entries) + 1, 36):
                    kept = [moments for delays, moments in days if late_ones(delays, of) <= late]
                    for entry in plain.entries:
                        most = max(moments[entry] for moments in kept)
                        self.same(latest(table, entry, bounds, late=late, of=of), most)
                        told += 1
        self.assertGreater(told, 1500)

    def test_the_fact_on_ways(self):
        for table, plain in small_days(120):
            bounds = some_bounds(random.Random(len(plain.ties)), table.plan, 9)
            for entry in plain.entries:
                ways = [(plain.sum_of(table.plan, way, entry), [tie[0] for tie in way] + [entry])
                        for way in plain.ways(entry)]
                for late in (0, 1, 2):
                    sums = [total + sum(sorted([bounds.get(one, 0) for one in met], reverse=True)[:late])
                            for total, met in ways]
                    self.same(latest(table, entry, bounds, late=late), max(sums))
                    by_train = [(total, [sum(bounds.get(one, 0) for one in met if one[0] == name)
                                         for name in table.plan.trains()]) for total, met in ways]
                    sums = [total + sum(sorted(rows, reverse=True)[:late]) for total, rows in by_train]
                    self.same(latest(table, entry, bounds, late=late, of="trains"), max(sums))


class WorstTest(Case):
    def test_the_passing_place(self):
        self.same([worst(TABLE, ("b", 2), FEW), worst(TABLE, ("b", 2), FEW, late=0)], [{("a", 1): 10}, {}])
        self.assertEqual(worst(TABLE, ("b", 2), FEW, late=2), FEW)
        self.same(worst(TABLE, ("b", 2), FEW, of="trains"), {("a", 1): 10})
        self.same(worst(TABLE, ("b", 2), {entry: 0 for entry in ENTRIES}, late=36), {})

    def test_as_late_as_latest_tells(self):
        for at, table in enumerate(led_days(150, most_trains=5)):
            chance = random.Random(at)
            bounds = some_bounds(chance, table.plan, 12)
            for of in ("steps", "trains"):
                for late in (0, 1, 2, 36):
                    self.look_at(table, chance.choice(table.plan.entries()), bounds, late, of)

    def look_at(self, table, entry, bounds, late, of):
        found = worst(table, entry, bounds, late=late, of=of)
        self.assertIs(type(found), dict)
        self.assertTrue(all(0 < found[one] <= bounds.get(one, 0) for one in found))
        self.assertTrue(late_ones(found, of) <= late)
        self.assertIs(keeps(found, bounds, late=late, of=of), True)
        self.same(Moments(table, found).moment(entry), latest(table, entry, bounds, late=late, of=of))

    def test_it_is_new(self):
        worst(TABLE, ("b", 2), FEW).clear()
        worst(TABLE, ("b", 2), FEW, of="trains").clear()
        self.same([worst(TABLE, ("b", 2), FEW), worst(TABLE, ("b", 2), FEW, of="trains")], [{("a", 1): 10}] * 2)


class ErrorsTest(Case):
    def test_no_day_ahead_of_all_else(self):
        for table in (RING, BAR):
            for call in (latest, worst):
                self.refused(NoDay(), call, table, "no entry", "no bounds", late=-1, of=None)

    def test_unknown_entries_ahead_of_bounds(self):
        for value in NO_ENTRIES:
            for call in (latest, worst):
                self.refused(UnknownEntry(value), call, TABLE, value, "no bounds", late=-1, of=None)
        self.refused(UnknownEntry(("a", 0)), latest, NONE, ("a", 0), {})

    def test_bounds_ahead_of_late(self):
        for value in NO_DELAYS + [None]:
            for call in (latest, worst):
                self.refused(InvalidDelays(value), call, TABLE, ("a", 0), value, late=-1, of=None)

    def test_late_ahead_of_of(self):
        for value in NO_COUNTS:
            for call in (latest, worst):
                self.refused(InvalidNumber(value), call, TABLE, ("a", 0), {}, late=value, of=None)

    def test_of(self):
        for value in ANYTHING + ["step", "train", "Steps", "trains ", ["steps"], ("trains",)]:
            for call in (latest, worst):
                self.refused(InvalidNumber(value), call, TABLE, ("a", 0), {}, of=value)

    def test_edges(self):
        for late in (0, 36):
            self.same(latest(TABLE, ("a", 0), {("a", 0): 10 ** 6}, late=late), 10 ** 6 if late else 0)
            self.same(worst(TABLE, ("a", 0), {("a", 0): 0}, late=late, of="trains"), {})


class KeepsTest(Case):
    def test_bounds(self):
        for of in ("steps", "trains"):
            self.same([keeps({("a", 1): 10}, FEW, of=of), keeps({("a", 1): 11}, FEW, of=of), keeps({("a", 1): -1}, FEW, of=of),
                       keeps({}, FEW, of=of), keeps({}, {}, of=of), keeps({("a", 0): 0}, {}, of=of),
                       keeps({("a", 0): 1}, {}, of=of)], [True, False, False, True, True, True, False])

    def test_how_many(self):
        bounds = {("a", 0): 1, ("a", 1): 1, ("b", 0): 1}
        for delays, steps, trains in (({}, 0, 0), ({("a", 0): 0}, 0, 0), ({("a", 0): 1}, 1, 1),
                                      ({("a", 0): 1, ("a", 1): 1}, 2, 1), ({("a", 0): 1, ("b", 0): 1}, 2, 2),
                                      ({("a", 0): 0, ("a", 1): 1, ("b", 0): 1}, 2, 2), (bounds, 3, 2)):
            for late in range(5):
                self.same(keeps(delays, bounds, late=late), steps <= late)
                self.same(keeps(delays, bounds, late=late, of="steps"), steps <= late)
                self.same(keeps(delays, bounds, late=late, of="trains"), trains <= late)

    def test_what_late_is_without_being_given(self):
        self.same([keeps({("a", 0): 1, ("b", 0): 1}, {("a", 0): 1, ("b", 0): 1}, of="trains"),
                   keeps({("a", 0): 1, ("a", 1): 1}, {("a", 0): 1, ("a", 1): 1}, of="trains"),
                   keeps({("a", 0): 1, ("a", 1): 1}, {("a", 0): 1, ("a", 1): 1})], [False, True, False])


class ArgumentsTest(Case):
    def test_by_name(self):
        self.same([latest(table=TABLE, entry=("b", 2), bounds=FEW, late=2, of="trains"),
                   worst(table=TABLE, entry=("b", 2), bounds=FEW, late=1, of="steps"),
                   keeps(delays=FEW, bounds=FEW, late=2, of="trains")], [52, {("a", 1): 10}, True])
        for call in (latest, worst):
            with self.assertRaises(TypeError):
                call(TABLE, ("b", 2), FEW, 1)
        with self.assertRaises(TypeError):
            keeps(FEW, FEW, 1)

    def test_dicts_that_are_passed_stay(self):
        bounds, delays = dict(FEW), {("a", 1): 3}
        latest(TABLE, ("b", 2), bounds, late=2)
        worst(TABLE, ("b", 2), bounds, of="trains")
        keeps(delays, bounds)
        self.same([bounds, delays], [FEW, {("a", 1): 3}])

    def test_public_moments(self):
        train = Train("a", 15, Step("west.su.1", [4, 5, 11], public=7), Step("su.m.1", [1, 5], public=40))
        table = Table(Plan(PLACE, train), [])
        self.same([latest(table, ("a", 1), {("a", 0): 22}), latest(table, ("a", 1), {("a", 0): 23}),
                   latest(table, ("a", 1), {("a", 0): 22, ("a", 1): 1}), latest(table, ("a", 0), {("a", 0): 2})],
                  [40, 41, 41, 9])


if __name__ == "__main__":
    unittest.main()
