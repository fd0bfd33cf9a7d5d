import random
import unittest

from chances import PLACE, some_led_row, some_plan
from helpers import Case
from oracles import PlainWeb, plain_moments
from ringlessday.alike import alike, alike_at, parting
from ringlessday.errors import NoDay, TooMany, UnknownEntry
from ringlessday.orders import Table
from ringlessday.plans import Plan
from ringlessday.trains import Step, Train
from test_lateness import NO_ENTRIES
from test_machine import A, B
from test_moments import BAR, NONE, RING, TABLE
from test_profiles import east, plain_profile

OTHER = Table(TABLE.plan, [False] * 4)
ENTRIES = TABLE.plan.entries()


def two_tables(seed):
    """Two tables of one plan without bar and ring, or None."""
    chance = random.Random(seed)
    plan = some_plan(chance, most_trains=4, most_steps=3)
    if not 1 <= len(plan.entries()) <= 14:
        return None
    rows = [some_led_row(chance, plan) for _ in range(2)]
    return None if None in rows else [Table.of_row(plan, row) for row in rows]


def many_tables(many):
    return [found for found in map(two_tables, range(many)) if found]


class AlikeTest(Case):
    def test_the_passing_place(self):
        self.same([alike_at(TABLE, OTHER, entry) for entry in ENTRIES], [False] * 6)
        self.same([alike_at(TABLE, Table(TABLE.plan, [True] * 4), entry) for entry in ENTRIES], [True] * 6)
        self.same([alike(TABLE, OTHER), alike(TABLE, TABLE), alike(NONE, NONE), alike(one=OTHER, other=OTHER)],
                  [False, True, True, True])
        self.same(alike_at(one=TABLE, other=OTHER, entry=("a", 0)), False)

    def test_alike_at_some_entries(self):
        told = {"alike": 0, "unlike": 0, "both": 0}
        for one, other in many_tables(250):
            plain, rival = PlainWeb(one), PlainWeb(other)
            each = [plain_profile(one, plain, entry) == plain_profile(other, rival, entry) for entry in plain.entries]
            self.same([alike_at(one, other, entry) for entry in plain.entries], each)
            self.same([alike(one, other), alike(other, one)], [all(each)] * 2)
            told["alike"] += all(each)
            told["unlike"] += not any(each)
            told["both"] += any(each) and not all(each)
            # The first entry of a pair is on a way to the second one, and so never the other way round.
            self.same(all(each), one.firsts() == other.firsts())
        self.assertTrue(told["both"] > 20 and told["alike"] > 20 and told["unlike"] > 5, told)

    def test_the_fact_on_all_delays(self):
        told = 0
        for one, other in many_tables(150):
            chance = random.Random(len(one))
            plain, rival = PlainWeb(one), PlainWeb(other)
            same = [entry for entry in plain.entries if alike_at(one, other, entry)]
            for most in (2, 9, 50, 10 ** 6, 10 ** 9):
                delays = {entry: chance.randrange(most) for entry in plain.entries if chance.random() < 0.5}
                mine, its = plain_moments(one, plain, delays), plain_moments(other, rival, delays)
                for entry in same:
                    self.same(mine[entry], its[entry])
                    told += one != other
        self.assertGreater(told, 150)


class PartingTest(Case):
    def test_the_passing_place(self):
        for entry in ENTRIES:
            self.look_at(TABLE, OTHER, entry)
            self.same(parting(TABLE, TABLE, entry), None)
        self.same(parting(one=TABLE, other=TABLE, entry=("b", 0)), None)

    def look_at(self, one, other, entry):
        found = parting(one, other, entry)
        self.assertIs(type(found), dict)
        self.assertTrue(all(delayed in one.plan.entries() for delayed in found))
        self.assertTrue(all(type(number) is int and number >= 0 for number in found.values()))
        mine, its = plain_moments(one, PlainWeb(one), found), plain_moments(other, PlainWeb(other), found)
        self.assertNotEqual(mine[entry], its[entry])

    def test_exactly_where_they_are_not_alike(self):
        told = [0, 0]
        for one, other in many_tables(200):
            for entry in one.plan.entries():
                if alike_at(one, other, entry):
                    self.same(parting(one, other, entry), None)
                else:
                    self.look_at(one, other, entry)
                    self.look_at(other, one, entry)
                told[alike_at(one, other, entry)] += 1
        self.assertTrue(min(told) > 100, told)

    def test_behind_a_late_public_moment(self):
        late = Train("b", 15, Step("east.n.1", [4], public=500000), Step("n.tu.1", [4, 5, 11]), Step("tu.west.1", [1, 5]))
        plan = Plan(PLACE, A, late)
        one, other = Table(plan, [True] * 4), Table(plan, [False] * 4)
        for entry in plan.entries():
            self.look_at(one, other, entry)
            self.look_at(other, one, entry)

    def test_equal_tables_of_equal_plans(self):
        self.same(parting(Table(Plan(PLACE, A, B), [True] * 4), Table(Plan(PLACE, A, B), [True] * 4), ("b", 2)), None)


class ErrorsTest(Case):
    def test_no_day_for_the_first_table_ahead_of_the_second(self):
        for call in (alike_at, parting):
            for one, other in ((RING, TABLE), (TABLE, RING), (RING, RING)):
                self.refused(NoDay(), call, one, other, "no entry")
            self.refused(NoDay(), call, BAR, BAR, ("a", 0))
        for one, other in ((RING, TABLE), (TABLE, RING), (BAR, BAR)):
            self.refused(NoDay(), alike, one, other)

    def test_too_many_entries(self):
        many = east(4, 4, 4, 3)
        wrong = Table(many.plan, [False] + [True] * (len(many) - 1))
        for call in (alike_at, parting):
            self.refused(TooMany("entries", 14), call, many, many, "no entry")
            self.refused(NoDay(), call, many, wrong, "no entry")
            self.refused(NoDay(), call, wrong, many, "no entry")
        self.refused(TooMany("entries", 14), alike, many, many)
        self.refused(NoDay(), alike, many, wrong)
        just = east(4, 4, 4, 2)
        self.same([alike(just, just), parting(just, just, ("a", 0)), alike_at(just, just, ("d", 1))], [True, None, True])

    def test_unknown_entries(self):
        for call in (alike_at, parting):
            for value in NO_ENTRIES:
                self.refused(UnknownEntry(value), call, TABLE, OTHER, value)
            self.refused(UnknownEntry(("a", 0)), call, NONE, NONE, ("a", 0))


if __name__ == "__main__":
    unittest.main()
