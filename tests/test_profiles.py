import random
import unittest

from chances import PLACE, led_days
from helpers import Case
from oracles import PlainWeb, plain_moments
from ringlessday.errors import NoDay, TooMany, UnknownEntry
from ringlessday.moments import Moments
from ringlessday.orders import Table, pairs
from ringlessday.plans import Plan
from ringlessday.profiles import moment_by, outdone, profile
from ringlessday.trains import Step, Train
from test_buffers import LATE
from test_lateness import NO_ENTRIES
from test_moments import BAR, NONE, RING, TABLE
from test_safety import many_standings

A0, A1, A2, B0, B1, B2 = TABLE.plan.entries()


def east(*steps):
    """Trains that go to the east one behind the other, with so many steps each."""
    plan = many_standings(*steps)
    return Table(plan, [True] * len(pairs(plan)))


def pairs_of_ways(table, plain, entry):
    """The pairs (stops, sum) of all ways to an entry, as often as they come."""
    found = []
    for way in plain.ways(entry):
        met = {tie[0] for tie in way} | {entry}
        found.append((tuple(one for one in plain.entries if one in met), plain.sum_of(table.plan, way, entry)))
    return found


def plain_profile(table, plain, entry):
    found = set(pairs_of_ways(table, plain, entry))
    kept = [pair for pair in found if not any(
        pair != other and set(pair[0]) <= set(other[0]) and pair[1] <= other[1] for other in found)]
    return sorted(kept, key=lambda pair: [plain.entries.index(stop) for stop in pair[0]])


class ProfileTest(Case):
    def test_the_passing_place(self):
        self.same([profile(TABLE, A0), profile(TABLE, A2), profile(table=TABLE, entry=B0)],
                  [[((A0,), 0)], [((A0, A1, A2), 16)], [((A0, A1, A2, B0), 23)]])
        self.same(profile(LATE, A2), [((A0, A1, A2), 16), ((A2,), 20)])
        self.is_new_list(lambda: profile(LATE, A2))

    def test_ascending_by_the_positions_of_the_stops(self):
        # In the order of the plan z is ahead of a, and a goes first.
        one = Train("z", 15, Step("west.su.1", [4, 5, 11], public=30), Step("su.m.1", [1, 5], public=45))
        plan = Plan(PLACE, one, Train("a", 15, Step("east.n.1", [4]), Step("n.tl.1", [4, 5, 11]), Step("tl.west.1", [1, 5])))
        table = Table(plan, [False] * len(pairs(plan)))
        z0, z1, a0, a1, a2 = plan.entries()
        self.same(profile(table, z1), [((z0, z1), 41), ((z0, z1, a0, a1, a2), 32), ((z1,), 45)])
        self.same(profile(table, z1), plain_profile(table, PlainWeb(table), z1))

    def test_all_ways_of_small_tables(self):
        told = {"equal stops": 0, "equal pairs": 0, "outdone": 0, "pairs": 0}
        for table in led_days(200, 8):
            plain = PlainWeb(table)
            for entry in plain.entries:
                found = plain_profile(table, plain, entry)
                self.same(profile(table, entry), found)
                ways = pairs_of_ways(table, plain, entry)
                told["equal pairs"] += len(set(ways)) < len(ways)
                told["equal stops"] += len({stops for stops, _ in ways}) < len(set(ways))
                told["outdone"] += len(found) < len({stops for stops, _ in ways})
                told["pairs"] += len(found) > 2
        self.assertTrue(min(told.values()) > 20, told)

    def test_it_holds_exactly_what_is_not_outdone(self):
        for table in led_days(80, 8):
            plain = PlainWeb(table)
            for entry in plain.entries:
                found = profile(table, entry)
                for pair in set(pairs_of_ways(table, plain, entry)):
                    self.assertTrue(any(outdone(pair, other) for other in found))
                for pair in found:
                    self.same([other for other in found if outdone(pair, other)], [pair])

    def test_at_most_14_entries(self):
        table = east(4, 4, 4, 2)
        self.same(len(table.plan.entries()), 14)
        for entry in table.plan.entries():
            found = profile(table, entry)
            self.same(moment_by(found, {}), Moments(table).moment(entry))
        many = east(4, 4, 4, 3)
        self.same(len(many.plan.entries()), 15)
        self.refused(TooMany("entries", 14), profile, many, ("a", 0))

    def test_errors_in_their_order(self):
        for table in (RING, BAR):
            self.refused(NoDay(), profile, table, "no entry")
        many = east(4, 4, 4, 3)
        self.refused(TooMany("entries", 14), profile, many, "no entry")
        round_about = Table(many.plan, [False] + [True] * (len(many) - 1))
        self.refused(NoDay(), profile, round_about, "no entry")
        for value in NO_ENTRIES:
            self.refused(UnknownEntry(value), profile, TABLE, value)
        self.refused(UnknownEntry(A0), profile, NONE, A0)


class OutdoneTest(Case):
    def test_by_itself(self):
        self.same([outdone(((A0, A1), 5), ((A0, A1), 5)), outdone(((A0,), 0), ((A0,), 0))], [True, True])

    def test_by_others(self):
        pair = ((A0, B0), 5)
        for other, told in ((((A0, B0), 6), True), (((A0, B0), 4), False), (((A0, A1, B0), 5), True),
                            (((A0, A1, B0), 4), False), (((A0,), 9), False), (((B0,), 5), False), (((A0, A1), 9), False),
                            (((A1, B0), 9), False), (((A1, A2), 9), False)):
            self.same(outdone(pair, other), told)
        self.same(outdone(one=((A0,), 5), other=pair), True)
        self.same(outdone(pair, ((A0,), 5)), False)


class MomentByTest(Case):
    def test_the_passing_place(self):
        found = profile(LATE, A2)
        self.same([moment_by(found, {}), moment_by(found, {A0: 4}), moment_by(found, {A0: 5}), moment_by(found, {A2: 3, A0: 5}),
                   moment_by(profile=found, delays={B0: 100, A1: 10 ** 9})], [20, 20, 21, 24, 16 + 10 ** 9])

    def test_against_the_moments_with_drawn_delays(self):
        for at, table in enumerate(led_days(120, 14)):
            chance = random.Random(at)
            plain = PlainWeb(table)
            found = {entry: profile(table, entry) for entry in plain.entries}
            for most in (3, 40, 10 ** 6, 10 ** 12):
                delays = {entry: chance.randrange(most) for entry in plain.entries if chance.random() < 0.6}
                kept = dict(delays)
                moments = plain_moments(table, plain, delays)
                self.same({entry: moment_by(found[entry], delays) for entry in plain.entries},
                          {entry: moments[entry] for entry in plain.entries})
                self.same(delays, kept)


if __name__ == "__main__":
    unittest.main()
