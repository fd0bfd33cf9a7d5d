import random
import unittest

from chances import PLACE, led_days
from helpers import Case
from oracles import PlainWeb, plain_moments
from ringlessday.buffers import buffer, needless, reach, tightest
from ringlessday.errors import InvalidDelays, NoDay, UnknownEntry
from ringlessday.moments import Moments
from ringlessday.orders import Table
from ringlessday.plans import Plan
from ringlessday.trains import Step, Train
from test_lateness import NO_DELAYS, NO_ENTRIES
from test_machine import B
from test_moments import BAR, NONE, RING, TABLE, some_delays

ENTRIES = TABLE.plan.entries()
# Its last step waits for a public moment.
WAITS = Train("a", 15, Step("west.su.1", [4, 5, 11]), Step("su.m.1", [1, 5]), Step("m.east.1", [4], public=20), out=3)
LATE = Table(Plan(PLACE, WAITS, B), [True] * 4)


class BufferTest(Case):
    def test_the_passing_place(self):
        self.same([buffer(TABLE, ("a", 0), ("a", 2)), buffer(TABLE, ("a", 0), ("b", 2)), buffer(TABLE, ("b", 0), ("a", 0)),
                   buffer(TABLE, ("b", 2), ("b", 2)), buffer(table=TABLE, one=("a", 1), other=("a", 0))],
                  [0, 0, None, 0, None])
        self.same([buffer(LATE, ("a", 0), ("a", 2)), buffer(LATE, ("a", 1), ("b", 2)), buffer(LATE, ("a", 2), ("b", 2)),
                   buffer(LATE, ("a", 0), ("a", 1)), buffer(LATE, ("a", 2), ("a", 2))], [4, 4, 0, 0, 0])

    def test_at_its_edge(self):
        told = set()
        for table in led_days(150):
            plain = PlainWeb(table)
            least = plain_moments(table, plain, {})
            for one in plain.entries:
                for other in plain.entries:
                    found = buffer(table, one, other)
                    if found is None:
                        self.same(plain_moments(table, plain, {one: 10 ** 6})[other], least[other])
                        self.assertFalse(one == other)
                        continue
                    told.add(found)
                    self.assertIs(type(found), int)
                    self.same(plain_moments(table, plain, {one: found})[other], least[other])
                    self.same(plain_moments(table, plain, {one: found + 1})[other], least[other] + 1)
        self.assertTrue(len(told) > 10 and 0 in told)

    def test_none_exactly_where_no_way_goes_through(self):
        for table in led_days(60):
            for one in table.plan.entries():
                for other in table.plan.entries():
                    self.same(buffer(table, one, other) is not None, other in reach(table, one))

    def test_errors(self):
        for table in (RING, BAR):
            self.refused(NoDay(), buffer, table, "no entry", None)
        for value in NO_ENTRIES:
            self.refused(UnknownEntry(value), buffer, TABLE, value, "no entry")
            self.refused(UnknownEntry(value), buffer, TABLE, ("a", 0), value)
        self.refused(UnknownEntry(("a", 0)), buffer, NONE, ("a", 0), ("a", 0))


class ReachTest(Case):
    def test_the_passing_place(self):
        self.same([reach(TABLE, ("a", 0)), reach(TABLE, ("a", 2)), reach(table=TABLE, entry=("b", 2))],
                  [ENTRIES, [("a", 2), ("b", 0), ("b", 1), ("b", 2)], [("b", 2)]])
        self.is_new_list(lambda: reach(TABLE, ("a", 0)))

    def test_in_the_order_of_the_plan(self):
        table = Table(TABLE.plan, [False] * 4)
        self.same(reach(table, ("b", 0)), ENTRIES)
        self.same(reach(table, ("b", 1)), [("a", 0), ("a", 1), ("a", 2), ("b", 1), ("b", 2)])

    def test_by_the_definition(self):
        for table in led_days(100, 6):
            plain = PlainWeb(table)
            for entry in plain.entries:
                found = [other for other in plain.entries
                         if any(entry in [tie[0] for tie in way] + [other] for way in plain.ways(other))]
                self.same(reach(table, entry), found)

    def test_errors(self):
        for table in (RING, BAR):
            self.refused(NoDay(), reach, table, "no entry")
        for value in NO_ENTRIES:
            self.refused(UnknownEntry(value), reach, TABLE, value)


class NeedlessTest(Case):
    def test_the_passing_place(self):
        self.same([needless(TABLE, {("b", 2): 5}, ("a", 0)), needless(TABLE, {("b", 2): 5}, ("b", 2)),
                   needless(TABLE, {}, ("b", 2)), needless(TABLE, {("b", 2): 0}, ("a", 0))], [[("b", 2)], [], [], []])
        self.same(needless(LATE, {("a", 0): 4, ("a", 1): 1}, ("a", 2)), [])
        self.same(needless(LATE, {("a", 1): 2, ("a", 0): 2}, ("a", 2)), [("a", 0), ("a", 1)])
        self.same(needless(LATE, {("a", 0): 4, ("a", 1): 0}, ("a", 2)), [("a", 0)])
        self.same(needless(table=LATE, delays={("a", 0): 5}, entry=("a", 2)), [])
        self.is_new_list(lambda: needless(TABLE, {("b", 2): 5}, ("a", 0)))

    def test_by_the_definition(self):
        told = set()
        for at, table in enumerate(led_days(120)):
            plain = PlainWeb(table)
            delays = some_delays(random.Random(at), table.plan)
            kept = dict(delays)
            moments = plain_moments(table, plain, delays)
            for entry in plain.entries:
                found = [one for one in plain.entries if delays.get(one, 0)
                         and plain_moments(table, plain, {**delays, one: 0})[entry] == moments[entry]]
                self.same(needless(table, delays, entry), found)
                told.add(len(found))
            self.same(delays, kept)
        self.assertTrue(len(told) > 3)

    def test_errors_in_their_order(self):
        for table in (RING, BAR):
            self.refused(NoDay(), needless, table, "no delays", "no entry")
        for value in NO_DELAYS + [None]:
            self.refused(InvalidDelays(value), needless, TABLE, value, "no entry")
        for value in NO_ENTRIES:
            self.refused(UnknownEntry(value), needless, TABLE, {("a", 0): 10 ** 6, ("b", 0): 0}, value)


class TightestTest(Case):
    def test_the_passing_place(self):
        self.same(tightest(TABLE), [(("a", 0), ("a", 1), 11, "run"), (("a", 1), ("a", 2), 5, "run"),
                                    (("a", 2), ("b", 0), 7, "clash"), (("b", 0), ("b", 1), 4, "run"),
                                    (("b", 1), ("b", 2), 11, "run")])
        self.is_new_list(lambda: tightest(table=TABLE))
        self.same(tightest(NONE), [])

    def test_by_the_definition(self):
        for table in led_days(100) + [LATE]:
            moments = Moments(table).moments()
            self.same(tightest(table), [tie for tie in PlainWeb(table).ties if moments[tie[1]] == moments[tie[0]] + tie[2]])

    def test_errors(self):
        for table in (RING, BAR):
            self.refused(NoDay(), tightest, table)


if __name__ == "__main__":
    unittest.main()
