import random
import unittest
from itertools import permutations, product

from chances import CROSS, LINE, LINK, PLACE, some_plan
from helpers import ANYTHING, Case
from oracles import PlainWeb
from ringlessday.errors import InvalidTable, TooMany
from ringlessday.orders import Table, pairs
from ringlessday.plans import Plan
from ringlessday.standings import entry_rows
from ringlessday.tables import forced, tables
from ringlessday.trains import Step, Train
from test_machine import A, B, BACK, STAYS

PLAN = Plan(PLACE, A, B)


def meetings(many):
    """A plan of so many trains over one section, so that each two of them make a pair."""
    return Plan(LINK, *[Train(name, 5, Step("nw.n.1", [3]), Step("n.ne.1", [2, 4])) for name in "abcdef"[:many]])


def runnable(plan):
    """All orders that make neither bar nor ring, by the definitions."""
    every = product([False, True], repeat=len(pairs(plan)))
    return [list(firsts) for firsts in every if PlainWeb(Table(plan, list(firsts))).is_runnable()]


def sorted_tables(plan):
    """The tables of all rows of a plan whose trains have one step each."""
    found = [Table.of_row(plan, list(row)) for row in permutations(plan.entries())]
    return sorted(found, key=lambda table: table.firsts())


class TablesTest(Case):
    def test_ascending(self):
        found = list(tables(plan=PLAN))
        self.assertEqual(found, [Table(PLAN, [False] * 4), Table(PLAN, [True] * 4)])
        self.same([table.firsts() for table in found], [[False] * 4, [True] * 4])
        self.assertTrue(all(type(table) is Table for table in found))

    def test_of_a_plan_without_pairs(self):
        self.assertEqual(list(tables(Plan(PLACE))), [Table(Plan(PLACE), [])])
        turned = Plan(LINE, STAYS, BACK, turns=[("b", "a", 5)])
        self.assertEqual(list(tables(turned)), [Table(turned, [])])

    def test_just_ten_pairs(self):
        # Five trains over the crossing, one behind the other in any order.
        plan = Plan(CROSS, *[Train(name, 5, Step("ed.wb.1", [3, 4, 5])) for name in "abcde"])
        found = [table.firsts() for table in tables(plan)]
        self.same([len(pairs(plan)), len(found), found == sorted(found)], [10, 120, True])
        self.same(found, [table.firsts() for table in sorted_tables(plan)])

    def test_beyond_ten_pairs(self):
        trains = [Train(name, 5, Step("ed.wb.1", [3, 4, 5])) for name in "abcd"]
        trains.append(Train("e", 5, Step("wa.sa.1", [3]), Step("sa.ec.1", [1, 4])))
        self.same([len(pairs(Plan(CROSS, *trains))), len(list(tables(Plan(CROSS, *trains))))], [10, 120])
        plan = Plan(CROSS, *trains, Train("f", 5, Step("wa.sa.1", [3])))
        self.same(len(pairs(plan)), 11)
        generator = tables(plan)
        self.refused_first(TooMany("pairs", 10), generator)
        self.assertEqual(list(generator), [])

    def test_many_tables(self):
        # Each two of four trains over both sections make two pairs, and no train passes another one.
        plan = meetings(2)
        self.same([pairs(plan), [table.firsts() for table in tables(plan)]],
                  [[(("a", 0), ("b", 0)), (("a", 1), ("b", 1))], runnable(plan)])
        plan = meetings(3)
        self.same([len(pairs(plan)), [table.firsts() for table in tables(plan)], len(runnable(plan))], [6, runnable(plan), 6])

    def test_two_generators_in_turn(self):
        one, other = tables(PLAN), tables(PLAN)
        self.same([next(one).firsts(), next(other).firsts(), next(one).firsts(), next(other).firsts()],
                  [[False] * 4, [False] * 4, [True] * 4, [True] * 4])
        self.same([list(one), list(other)], [[], []])

    def test_a_plan_without_a_day(self):
        self.same(list(tables(Plan(PLACE, A, B, waits=[("a", 0, "b", 2, 0), ("b", 0, "a", 2, 0)]))), [])
        waits = Plan(LINE, Train("a", 5, Step("west.ey.1", [1, 2])), Train("b", 5, Step("east.wz.1", [1, 2])),
                     waits=[("a", 0, "b", 0, 0), ("b", 0, "a", 0, 0)])
        self.same([pairs(waits), list(tables(waits))], [[], []])

    def test_by_the_definitions(self):
        for seed in range(150):
            plan = some_plan(random.Random(seed))
            if len(pairs(plan)) <= 7:
                self.same([table.firsts() for table in tables(plan)], runnable(plan))

    def test_they_are_the_tables_of_the_rows_from_the_first_standing_to_the_end(self):
        for seed in range(150):
            plan = some_plan(random.Random(seed), most_trains=3, most_steps=2)
            if len(pairs(plan)) <= 10:
                rows = entry_rows(plan, (0,) * len(plan))
                told = sorted({tuple(Table.of_row(plan, row).firsts()) for row in rows})
                self.same([tuple(table.firsts()) for table in tables(plan)], told)


class ForcedTest(Case):
    def test_the_passing_place(self):
        for at in range(4):
            for first in (True, False):
                known = [None] * 4
                known[at] = first
                self.same(forced(PLAN, known), [first] * 4)
        self.same(forced(plan=PLAN, known=(None, None, None, True)), [True] * 4)

    def test_none_known(self):
        self.same(forced(PLAN, [None] * 4), [None] * 4)
        self.same(forced(Plan(PLACE), []), [])
        waits = Plan(PLACE, A, B, waits=[("b", 0, "a", 0, 0)])
        self.same(forced(waits, [None] * 4), [True] * 4)

    def test_all_known(self):
        self.same([forced(PLAN, [True] * 4), forced(PLAN, [False] * 4)], [[True] * 4, [False] * 4])

    def test_contradictions(self):
        for firsts in product([True, False], repeat=4):
            if len(set(firsts)) == 2:
                self.same(forced(PLAN, list(firsts)), None)
        self.same(forced(PLAN, [True, None, None, False]), None)

    def test_a_pair_that_can_have_neither_order(self):
        # Both stay in y, so one of them bars the other one.
        plan = Plan(LINE, Train("a", 5, Step("west.ey.1", [1, 2])), Train("b", 5, Step("west.ey.1", [1, 2])))
        self.same([forced(plan, [None]), forced(plan, [True]), forced(plan, [False])], [None, None, None])

    def test_the_first_four_reasons_alone_have_a_ring(self):
        waits = [("a", 0, "b", 2, 0), ("b", 0, "a", 2, 0)]
        self.same(forced(Plan(PLACE, A, B, waits=waits), [None] * 4), None)
        apart = Plan(LINE, Train("a", 5, Step("west.ey.1", [1, 2])), Train("b", 5, Step("east.wz.1", [1, 2])),
                     waits=[("a", 0, "b", 0, 0), ("b", 0, "a", 0, 0)])
        self.same(forced(apart, []), None)

    def test_the_list_stays_and_what_comes_back_is_new(self):
        known = [None, None, True, None]
        found = forced(PLAN, known)
        self.same(known, [None, None, True, None])
        found.clear()
        self.same(forced(PLAN, known), [True] * 4)

    def test_what_comes_back_given_again(self):
        for seed in range(120):
            chance = random.Random(seed)
            plan = some_plan(chance)
            known = [chance.choice([None, None, True, False]) for _ in pairs(plan)]
            found = forced(plan, known)
            if found is not None:
                self.same(forced(plan, found), found)

    def test_invalid_tables(self):
        for value in ANYTHING + [[None] * 3, [None] * 5, [None, None, None, 0], [1, None, None, None], "abcd",
                                 [None, None, None, ""], [[None], None, None, None], {0: None}]:
            self.refused(InvalidTable(value), forced, PLAN, value)
        for value in ANYTHING:
            if value not in ([], ()):
                self.refused(InvalidTable(value), forced, Plan(PLACE), value)

    def test_by_the_definition(self):
        told = {"None": 0, "more": 0, "same": 0}
        for seed in range(150):
            chance = random.Random(seed)
            plan = some_plan(chance)
            known = [chance.choice([None, None, None, None, True, False]) for _ in pairs(plan)]
            found = forced(plan, known)
            self.same(found, self.forced(plan, known))
            told["None" if found is None else "same" if found == known else "more"] += 1
        self.assertTrue(min(told.values()) > 20, told)

    def forced(self, plan, known):
        """The same in the plainest way: all known ties are looked at for each order of each pair."""
        if not self.can_be(plan, known):
            return None
        while True:
            new = list(known)
            for at, first in enumerate(known):
                if first is None:
                    possible = [order for order in (True, False)
                                if self.can_be(plan, known[:at] + [order] + known[at + 1:])]
                    if not possible:
                        return None
                    new[at] = possible[0] if len(possible) == 1 else None
            if new == known:
                return known
            known = new
            if not self.can_be(plan, known):
                return None

    def can_be(self, plan, known):
        web = PlainWeb(Table(plan, [True] * len(known)))
        ties = [tie for tie in web.ties if tie[3] != "clash"]
        for (one, other), first in zip(pairs(plan), known):
            if first is not None:
                plain = PlainWeb.__new__(PlainWeb)
                plain.ties, plain.bars = set(), set()
                plain.add_pair(plan, *((one, other) if first else (other, one)), "clash")
                if plain.bars:
                    return False
                ties += plain.ties
        web.ties, web.bars = ties, []
        return web.is_runnable()


if __name__ == "__main__":
    unittest.main()
