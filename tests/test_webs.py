import random
import unittest
from itertools import permutations

from chances import LINE, LOOP, PLACE, some_plan, some_row
from helpers import ANYTHING, Case
from oracles import PlainWeb
from ringlessday.errors import Lacking, Refused, UnknownEntry
from ringlessday.orders import Table, is_row, pairs
from ringlessday.plans import Plan
from ringlessday.records import play_row
from ringlessday.trains import Step, Train
from ringlessday.webs import Web
from test_machine import A, B, BACK, STAYS

PLAN = Plan(PLACE, A, B)
FOR_A = Web(Table(PLAN, [True] * 4))
# Each of both waits for what the other one holds.
MEETING = Web(Table(PLAN, [True, True, True, False]))
RING = [(("a", 2), ("b", 1), 4, "clash"), (("b", 1), ("a", 2), 4, "clash")]


def some_table(chance, plan):
    return Table(plan, [chance.random() < 0.5 for _ in pairs(plan)])


class TiesTest(Case):
    def test_the_passing_place(self):
        self.same(FOR_A.ties(), [
            (("a", 0), ("a", 1), 11, "run"), (("a", 0), ("b", 2), 11, "clash"), (("a", 1), ("a", 2), 5, "run"),
            (("a", 1), ("b", 1), 5, "clash"), (("a", 2), ("b", 0), 7, "clash"), (("a", 2), ("b", 1), 4, "clash"),
            (("b", 0), ("b", 1), 4, "run"), (("b", 1), ("b", 2), 11, "run")])
        self.same([FOR_A.bars(), FOR_A.ring(), FOR_A.is_runnable], [[], None, True])
        self.is_new_list(FOR_A.ties)
        self.assertEqual(FOR_A.table, Table(PLAN, [True] * 4))

    def test_run_with_a_stop_and_public_moments_left_aside(self):
        steps = [Step("west.su.1", [4, 5, 11], stop=7, public=50), Step("su.m.1", [1, 5]), Step("m.east.1", [4], stop=9)]
        self.same(Web(Table(Plan(PLACE, Train("a", 15, *steps)), [])).ties(),
                  [(("a", 0), ("a", 1), 18, "run"), (("a", 1), ("a", 2), 5, "run")])

    def test_turn_without_the_stop_of_the_last_step(self):
        stays = Train("a", 25, Step("west.ey.1", [4, 9], stop=30))
        plan = Plan(LINE, stays, BACK, turns=[("b", "a", 6)])
        # The entry of b needs x, which the tail of a clears at 9 in the same step.
        self.same(Web(Table(plan, [])).ties(), [(("a", 0), ("b", 0), 9, "own"), (("a", 0), ("b", 0), 15, "turn")])

    def test_own_along_a_chain(self):
        first = Train("a", 25, Step("west.ey.1", [4, 9]))
        second = Train("b", 25, Step("ey.ez.1", [8]))
        third = Train("c", 25, Step("wz.wy.1", [7]), Step("wy.west.1", [6]), out=4)
        plan = Plan(LINE, first, second, third, turns=[("b", "a", 10), ("c", "b", 20)])
        self.same(Web(Table(plan, [])).ties(), [
            (("a", 0), ("b", 0), 19, "turn"), (("a", 0), ("c", 1), 9, "own"), (("b", 0), ("c", 0), 8, "own"),
            (("b", 0), ("c", 0), 28, "turn"), (("c", 0), ("c", 1), 7, "run")])

    def test_own_within_a_train(self):
        train = Train("a", 30, Step("west.s.1", [2, 3, 9], stop=4), Step("s.west.1", [1, 5]), out=2)
        # The tail clears w and p as soon as the head is at the far end of k.
        self.same(Web(Table(Plan(LOOP, train), [])).ties(), [(("a", 0), ("a", 1), 9, "own"), (("a", 0), ("a", 1), 13, "run")])

    def test_waits(self):
        plan = Plan(PLACE, A, B, waits=[("b", 1, "a", 0, 2), ("b", 1, "a", 0, 2), ("b", 1, "a", 0, 0), ("a", 2, "b", 0, 100)])
        ties = Web(Table(plan, [True] * 4)).ties()
        self.same([tie for tie in ties if tie[3] == "wait"],
                  [(("a", 0), ("b", 1), 11, "wait"), (("a", 0), ("b", 1), 13, "wait"), (("b", 0), ("a", 2), 104, "wait")])
        self.same(len(ties), 11)

    def test_ties_of_equal_entries_and_other_weights_or_reasons_are_several(self):
        # The train a clears q with e and e with f, so there are two ties to b, but from other entries.
        ties = [tie for tie in MEETING.ties() if tie[1][0] != tie[0][0]]
        self.same(ties, [(("a", 0), ("b", 2), 11, "clash"), (("a", 1), ("b", 1), 5, "clash"), (("a", 2), ("b", 1), 4, "clash"),
                         (("b", 1), ("a", 2), 4, "clash")])

    def test_bars(self):
        stays, other = Train("z", 5, Step("west.ey.1", [1, 2])), Train("a", 5, Step("west.ey.1", [1, 2]))
        plan = Plan(LINE, stays, other)
        for firsts, bars, ties in (([True], [(("z", 0), ("a", 0), "y")], [(("z", 0), ("a", 0), 2, "clash")]),
                                   ([False], [(("a", 0), ("z", 0), "y")], [(("a", 0), ("z", 0), 2, "clash")])):
            web = Web(table=Table(plan, firsts))
            self.same([web.bars(), web.ties(), web.is_runnable, web.row(), web.ring()], [bars, ties, False, None, None])
        self.is_new_list(web.bars)

    def test_into_and_out_of(self):
        self.same(FOR_A.into(("b", 1)), [(("a", 1), ("b", 1), 5, "clash"), (("a", 2), ("b", 1), 4, "clash"),
                                         (("b", 0), ("b", 1), 4, "run")])
        self.same(FOR_A.out_of(entry=("a", 2)), [(("a", 2), ("b", 0), 7, "clash"), (("a", 2), ("b", 1), 4, "clash")])
        self.same([FOR_A.into(entry=("a", 0)), FOR_A.out_of(("b", 2))], [[], []])
        for value in ANYTHING + [("a", 3), ("c", 0), ("a", True), ["a", 0], ("a", -1)]:
            self.refused(UnknownEntry(value), FOR_A.into, value)
            self.refused(UnknownEntry(value), FOR_A.out_of, value)
        self.is_new_list(lambda: FOR_A.into(("b", 1)))
        self.is_new_list(lambda: FOR_A.out_of(("a", 0)))

    def test_a_plan_without_trains(self):
        web = Web(Table(Plan(PLACE), []))
        self.same([web.ties(), web.bars(), web.ring(), web.row(), web.is_runnable, web.is_ring([])],
                  [[], [], None, [], True, False])

    def test_by_the_definitions(self):
        for seed in range(150):
            chance = random.Random(seed)
            plan = some_plan(chance)
            table = some_table(chance, plan)
            if chance.random() < 0.5:
                table = Table.of_row(plan, some_row(chance, plan))
            web, plain = Web(table), PlainWeb(table)
            self.same([web.ties(), web.bars(), web.is_runnable], [plain.ties, plain.bars, plain.is_runnable()])
            self.assertTrue(all(tie[2] >= 1 for tie in web.ties()))
            for entry in plan.entries():
                self.same(web.into(entry), [tie for tie in plain.ties if tie[1] == entry])
                self.same(web.out_of(entry), [tie for tie in plain.ties if tie[0] == entry])
            ring = web.ring()
            self.same(ring is not None, plain.has_ring())
            if ring is not None:
                self.assertIs(web.is_ring(ring), True)
                self.is_new_list(web.ring)
            self.same(web.row(), plain.row() if plain.is_runnable() else None)


class RowTest(Case):
    def test_the_first_entry_that_can_be_taken(self):
        self.same(FOR_A.row(), [("a", 0), ("a", 1), ("a", 2), ("b", 0), ("b", 1), ("b", 2)])
        apart = Plan(LINE, Train("z", 5, Step("east.wz.1", [1, 2])), Train("a", 5, Step("west.ey.1", [1, 2])))
        self.same(Web(Table(apart, [])).row(), [("z", 0), ("a", 0)])
        waits = Plan(LINE, Train("z", 5, Step("east.wz.1", [1, 2])), Train("a", 5, Step("west.ey.1", [1, 2])),
                     waits=[("z", 0, "a", 0, 0)])
        self.same(Web(Table(waits, [])).row(), [("a", 0), ("z", 0)])
        self.same(MEETING.row(), None)
        self.is_new_list(FOR_A.row)


class RingTest(Case):
    def test_ring(self):
        ring = MEETING.ring()
        self.same([sorted(ring), MEETING.is_runnable], [RING, False])
        self.is_new_list(MEETING.ring)

    def test_rings_and_turned_rings(self):
        self.same([MEETING.is_ring(RING), MEETING.is_ring(value=RING[::-1]), MEETING.is_ring(tuple(RING))], [True] * 3)
        self.same(FOR_A.is_ring(RING), False)

    def test_one_thing_changed(self):
        one, other = RING
        for value in ([], [one], [other], RING + RING, [one, other, one], [one, None], [list(one), other],
                      [(one[0], one[1], 5, "clash"), other], [(one[0], one[1], 4, "run"), other],
                      [(one[0], one[1], 4), other], [one[:2], other], [(*one, 0), other],
                      [(one[1], one[0], 4, "clash"), other], [one, (("b", True), *other[1:])],
                      [(one[0], ("b", 1), True, "clash"), other], [one, (("b", 1), ("a", 2), 4, ["clash"])]):
            self.same(MEETING.is_ring(value), False)

    def test_a_longer_ring_and_one_that_goes_round_twice(self):
        # Every way from b to a and back again makes a ring; the least one and all others.
        table = Table(PLAN, [False, True, True, False])
        web, plain = Web(table), PlainWeb(table)
        rings = plain.rings()
        self.assertTrue(len(rings) > 1)
        for ring in rings:
            for at in range(len(ring)):
                self.same(web.is_ring(ring[at:] + ring[:at]), True)
                self.same(web.is_ring(ring[:at] + ring[at + 1:]), False)
            self.same(web.is_ring(ring + ring), False)
        for one in rings:
            for other in rings:
                if one != other and one[0][0] == other[0][0]:
                    self.same(web.is_ring(one + other), False)

    def test_ties_that_are_no_integers_throughout(self):
        for tie in FOR_A.ties():
            self.same(FOR_A.is_ring([tie]), False)
        wrong = [(("a", 2), ("b", True), 4, "clash"), (("b", True), ("a", 2), 4, "clash")]
        self.same([wrong == RING, MEETING.is_ring(wrong)], [True, False])
        # Two trains that wait for each other.
        one, other = Train("a", 5, Step("west.ey.1", [1, 2])), Train("b", 5, Step("east.wz.1", [1, 2]))
        plan = Plan(LINE, one, other, waits=[("a", 0, "b", 0, 0), ("b", 0, "a", 0, 0)])
        ring = Web(Table(plan, [])).ring()
        self.same(sorted(ring), [(("a", 0), ("b", 0), 2, "wait"), (("b", 0), ("a", 0), 2, "wait")])

    def test_values_of_other_kinds(self):
        for value in ANYTHING + [{}, "ab", RING[0], {0: RING[0], 1: RING[1]}]:
            self.same(MEETING.is_ring(value), False)

    def test_all_lists_of_few_ties(self):
        for seed in range(40):
            chance = random.Random(seed)
            plan = some_plan(chance, most_trains=3, most_steps=2)
            table = some_table(chance, plan)
            web, plain = Web(table), PlainWeb(table)
            rings = [ring[at:] + ring[:at] for ring in plain.rings() for at in range(len(ring))]
            some = chance.sample(plain.ties, min(len(plain.ties), 7))
            for many in (1, 2, 3):
                for ties in permutations(some, many):
                    self.same(web.is_ring(list(ties)), list(ties) in rings)


class FactsTest(Case):
    """Days are webs without rings, point [19]."""

    def test_the_table_of_a_row_that_is_played_has_neither_bar_nor_ring(self):
        played = 0
        for seed in range(300):
            chance = random.Random(seed)
            plan = some_plan(chance, most_trains=3)
            row = some_row(chance, plan)
            self.assertTrue(is_row(plan, row))
            try:
                play_row(plan, row)
            except (Refused, Lacking):
                continue
            played += 1
            self.same(Web(Table.of_row(plan, row)).is_runnable, True)
        self.assertTrue(played > 50)

    def test_each_row_along_the_ties_is_played_and_has_the_table(self):
        runnable = 0
        for seed in range(400):
            chance = random.Random(seed)
            plan = some_plan(chance, most_trains=3, most_steps=2)
            table = some_table(chance, plan)
            web = Web(table)
            if not web.is_runnable:
                continue
            runnable += 1
            for _ in range(3):
                row = self.some_row_along(chance, web)
                self.assertEqual(Table.of_row(plan, row), table)
                self.same(play_row(plan, row).is_over, True)
        self.assertTrue(runnable > 100)

    def some_row_along(self, chance, web):
        row = []
        while len(row) < len(web.table.plan.entries()):
            row.append(chance.choice([entry for entry in web.table.plan.entries() if entry not in row
                                      and all(tie[0] in row for tie in web.into(entry))]))
        return row


if __name__ == "__main__":
    unittest.main()
