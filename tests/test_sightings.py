import random
import unittest

from chances import LINE, PLACE, led_days, some_led_row
from helpers import ANYTHING, Case
from oracles import PlainWeb, plain_moments
from ringlessday.errors import InvalidDelays, NoDay, UnknownEntry
from ringlessday.fits import Unfit
from ringlessday.moments import Moments
from ringlessday.orders import Table
from ringlessday.plans import Plan
from ringlessday.sightings import Sightings
from ringlessday.trains import Step, Train
from test_buffers import LATE
from test_lateness import NO_DELAYS, NO_ENTRIES
from test_moments import BAR, NONE, RING, TABLE

A0, A1, A2, B0, B1, B2 = ENTRIES = TABLE.plan.entries()
EARLY = Moments(TABLE).moments()


def short_table(seed):
    """A table of up to five entries with short times, so that all its days can be gone through."""
    chance = random.Random(seed)
    routes = [("west.ey.1", 2), ("ey.ez.1", 1), ("ez.east.1", 1)]
    trains, left = [], 5
    for name in "abc":
        many = chance.randint(1, min(3, left)) if left else 0
        steps = [Step(route, list(range(1, length + 1)), stop=chance.choice([0, 0, 1]),
                      public=chance.choice([None, None, chance.randrange(6)])) for route, length in routes[:many]]
        if steps:
            trains.append(Train(name, chance.choice([5, 25]), *steps))
        left -= many
    plan = Plan(LINE, *trains)
    row = some_led_row(chance, plan)
    return Table.of_row(plan, row) if row else None


def days_of(table, plain, seen, most):
    """All days of a table that have the sightings, without moments beyond most."""
    days = [{}]
    for entry in plain.row():
        longer = []
        for day in days:
            least = max([table.plan.step_of(entry).base] + [day[tie[0]] + tie[2] for tie in plain.ties if tie[1] == entry])
            longer += [{**day, entry: moment} for moment in range(least, most + 1) if seen.get(entry, moment) == moment]
        days = longer
    return days


def lateness(table, plain, day, entry):
    """By how much an entry is late in a day."""
    sums = [day[tie[0]] + tie[2] for tie in plain.ties if tie[1] == entry]
    return day[entry] - max([table.plan.step_of(entry).base, *sums])


class SightingsTest(Case):
    def test_the_passing_place(self):
        found = Sightings(TABLE, {A1: 14, B1: 27})
        self.same([found.agrees, found.ring(), found.seen(), found.surely_late()], [False, found.ring(), {A1: 14, B1: 27}, []])
        found = Sightings(TABLE, {A1: 14, B1: 33})
        self.same([found.agrees, found.ring(), found.surely_late()], [True, None, []])
        self.same([found.range_of(entry) for entry in ENTRIES], [(0, 3), (14, 14), (19, 22), (26, 29), (33, 33), (44, None)])
        found = Sightings(table=TABLE, seen={A0: 2, A1: 20, B2: 60})
        self.same([found.surely_late(), [found.blamed(entry) for entry in ENTRIES]], [[A0, A1], [2, 7, 0, 0, 0, 0]])
        found = Sightings(TABLE, {B0: 27, B1: 40, B2: 51})
        self.same([found.surely_late(), found.blamed(B1), found.blamed(entry=B2), found.blamed(B0)], [[B1], 9, 0, 0])
        self.assertEqual(found.table, TABLE)

    def test_at_the_least_moment_and_just_below_it(self):
        for table in [TABLE, LATE] + led_days(60):
            plain = PlainWeb(table)
            least = plain_moments(table, plain, {})
            for entry in plain.entries:
                at, below = Sightings(table, {entry: least[entry]}), None
                self.same([at.agrees, at.ring(), at.range_of(entry)], [True, None, (least[entry], least[entry])])
                if least[entry] > 0:
                    below = Sightings(table, {entry: least[entry] - 1})
                    self.same([below.agrees, below.range_of(entry), below.surely_late(), below.blamed(entry)],
                              [False, None, [], 0])
                    self.is_right_ring(table, {entry: least[entry] - 1}, below.ring())

    def is_right_ring(self, table, seen, ring):
        self.assertIs(type(ring), list)
        wishes = [("seen", entry, seen[entry]) for entry in table.plan.entries() if entry in seen]
        self.assertIs(Unfit(table, wishes, ring).holds(), True)

    def test_without_sightings(self):
        found = Sightings(TABLE, {})
        self.same([found.agrees, found.ring(), found.seen(), found.surely_late()], [True, None, {}, []])
        self.same([found.range_of(entry) for entry in ENTRIES], [(moment, None) for moment in EARLY.values()])
        found = Sightings(NONE, {})
        self.same([found.agrees, found.ring(), found.seen(), found.surely_late()], [True, None, {}, []])

    def test_a_base_counts_like_a_tie(self):
        found = Sightings(LATE, {A2: 20, A1: 11})
        self.same([found.surely_late(), found.blamed(A2), found.range_of(A0)], [[], 0, (0, 0)])
        found = Sightings(LATE, {A2: 23, A1: 11})
        self.same([found.surely_late(), found.blamed(A2)], [[A2], 3])

    def test_late_in_some_days_alone(self):
        # The step ahead may have been late, too, so this one is not surely so.
        found = Sightings(TABLE, {A2: 25})
        self.same([found.surely_late(), found.blamed(A2), found.range_of(A1)], [[], 0, (11, 20)])
        found = Sightings(TABLE, {A2: 25, A0: 3, A1: 14})
        self.same([found.surely_late(), found.blamed(A2), found.blamed(A1)], [[A0, A2], 6, 0])

    def test_the_greatest_sighting(self):
        found = Sightings(TABLE, {B2: 10 ** 9})
        self.same([found.agrees, found.range_of(B1), found.surely_late()], [True, (27, 10 ** 9 - 11), []])
        found = Sightings(TABLE, {A0: 10 ** 9})
        self.same([found.agrees, found.range_of(A1), found.blamed(A0)], [True, (10 ** 9 + 11, None), 10 ** 9])
        self.same(Sightings(TABLE, {A0: 0}).agrees, True)


class AllDaysTest(Case):
    def test_against_all_days(self):
        told = {"agree": 0, "not": 0, "late": 0, "open": 0, "several": 0}
        for seed in range(700):
            table = short_table(seed)
            if table is None:
                continue
            plain, chance = PlainWeb(table), random.Random(seed)
            least = plain_moments(table, plain, {})
            seen = {entry: max(0, least[entry] + chance.choice([-1, 0, 0, 1, 2, 2, 3, 3]))
                    for entry in plain.entries if chance.random() < 0.6}
            self.look_at(table, plain, seen, max(least.values()) + 5, told)
        self.assertTrue(min(told.values()) > 15, told)

    def look_at(self, table, plain, seen, most, told):
        found = Sightings(table, seen)
        days, more = days_of(table, plain, seen, most), days_of(table, plain, seen, most + 1)
        self.same(found.agrees, days != [])
        told["agree" if days else "not"] += 1
        if not days:
            self.same([found.surely_late(), found.ring() is None], [[], False])
            SightingsTest.is_right_ring(self, table, seen, found.ring())
        else:
            self.same(found.ring(), None)
        late = []
        for entry in plain.entries:
            times = [day[entry] for day in days]
            behind = min([lateness(table, plain, day, entry) for day in days], default=0)
            if not days:
                self.same(found.range_of(entry), None)
            elif max(times) == max(day[entry] for day in more):
                self.same(found.range_of(entry), (min(times), max(times)))
            else:
                self.same(found.range_of(entry), (min(times), None))
                told["open"] += 1
            self.same(found.blamed(entry), behind)
            late += [entry] if behind else []
        self.same(found.surely_late(), late)
        told["late"] += bool(late)
        told["several"] += len(late) > 1


class ArgumentsTest(Case):
    def test_errors_in_their_order(self):
        for table in (RING, BAR):
            self.refused(NoDay(), Sightings, table, "no dict")
        wrong = [value for value in NO_DELAYS if value != {("a", 0): 10 ** 6 + 1}]
        for value in wrong + [None, {A0: 10 ** 9 + 1}, {A0: 10 ** 40}]:
            self.refused(InvalidDelays(value), Sightings, TABLE, value)
        self.refused(InvalidDelays({A0: 1}), Sightings, NONE, {A0: 1})

    def test_unknown_entries(self):
        for found in (Sightings(TABLE, {A0: 5}), Sightings(TABLE, {B2: 0})):
            for value in NO_ENTRIES:
                self.refused(UnknownEntry(value), found.range_of, value)
                self.refused(UnknownEntry(value), found.blamed, value)
        self.refused(UnknownEntry(A0), Sightings(NONE, {}).blamed, A0)

    def test_what_is_passed_stays(self):
        seen = {B2: 60, A0: 2}
        found = Sightings(TABLE, seen)
        self.same(seen, {B2: 60, A0: 2})
        seen[A0] = 50
        found.seen().clear()
        self.assertEqual(found.seen(), {A0: 2, B2: 60})
        self.same(found.blamed(A0), 2)
        self.is_new_list(found.surely_late)
        self.is_new_list(Sightings(TABLE, {B2: 5}).ring)

    def test_in_the_order_of_the_entries(self):
        one = Train("z", 15, Step("west.su.1", [4, 5, 11]))
        plan = Plan(PLACE, one, Train("a", 15, Step("east.n.1", [4])))
        found = Sightings(Table(plan, []), {("a", 0): 3, ("z", 0): 5})
        self.same(found.surely_late(), [("z", 0), ("a", 0)])

    def test_values_of_every_kind_beside_entries(self):
        for value in ANYTHING:
            if type(value) is not int or not 0 <= value <= 10 ** 9:
                self.refused(InvalidDelays({A0: 5, B0: value}), Sightings, TABLE, {A0: 5, B0: value})


if __name__ == "__main__":
    unittest.main()
