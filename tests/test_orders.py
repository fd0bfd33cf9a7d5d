import random
import unittest

from chances import LINE, PLACE, some_plan, some_row
from helpers import ANYTHING, Case
from oracles import table_pairs
from ringlessday.errors import InvalidNumber, InvalidRow, InvalidTable, UnknownEntry
from ringlessday.orders import Table, is_row, pairs
from ringlessday.plans import Plan
from ringlessday.trains import Step, Train
from test_machine import A, B, BACK, C, STAYS

PLAN = Plan(PLACE, A, B)
TURNED = Plan(LINE, STAYS, BACK, turns=[("b", "a", 5)])
PAIRS = [(("a", 0), ("b", 1)), (("a", 0), ("b", 2)), (("a", 1), ("b", 1)), (("a", 2), ("b", 0))]
FOR_A = [("a", 0), ("a", 1), ("a", 2), ("b", 0), ("b", 1), ("b", 2)]
FIRSTS = [True, False, True, False]


class PairsTest(Case):
    def test_in_order(self):
        self.same(pairs(PLAN), PAIRS)
        # The lesser entry is the first one in the order of the plan, and not in that of the names.
        self.same(pairs(plan=Plan(PLACE, B, A)), [(("b", 0), ("a", 2)), (("b", 1), ("a", 0)), (("b", 1), ("a", 1)),
                                                  (("b", 2), ("a", 0))])
        self.same([pairs(Plan(PLACE)), pairs(Plan(PLACE, A))], [[], []])
        self.is_new_list(lambda: pairs(PLAN))

    def test_none_of_trains_of_one_chain(self):
        self.same(pairs(TURNED), [])
        d = Train("d", 5, Step("west.ey.1", [4, 9]))
        self.same(pairs(Plan(LINE, STAYS, d, BACK, turns=[("b", "a", 5)])), [(("a", 0), ("d", 0)), (("d", 0), ("b", 0))])

    def test_by_the_definition(self):
        for seed in range(60):
            plan = some_plan(random.Random(seed))
            self.same(pairs(plan), table_pairs(plan))


class IsRowTest(Case):
    def test_rows(self):
        self.same(is_row(PLAN, FOR_A), True)
        self.same(is_row(plan=PLAN, value=tuple(FOR_A)), True)
        self.same(is_row(PLAN, [("b", 0), ("a", 0), ("b", 1), ("a", 1), ("b", 2), ("a", 2)]), True)
        self.same([is_row(Plan(PLACE), []), is_row(TURNED, [("a", 0), ("b", 0)])], [True, True])

    def test_one_thing_changed(self):
        for at in range(6):
            entry = FOR_A[at]
            for other in (None, ["a", 0], (entry[0], entry[1] + 1), (entry[0], entry[1] - 1), ("c", 0), (entry[0],),
                          (*entry, 0), ("b" if entry[0] == "a" else "a", entry[1]), (entry[0], str(entry[1]))):
                self.same(is_row(PLAN, FOR_A[:at] + [other] + FOR_A[at + 1:]), False)
            self.same(is_row(PLAN, FOR_A[:at] + FOR_A[at + 1:]), False)
            self.same(is_row(PLAN, FOR_A[:at] + [entry] + FOR_A[at:]), False)
        for row in ([FOR_A[1], FOR_A[0], *FOR_A[2:]], FOR_A[::-1], [("a", False), *FOR_A[1:]],
                    [("a", 0), ("a", True), *FOR_A[2:]], FOR_A + [("a", 3)]):
            self.same(is_row(PLAN, row), False)

    def test_a_train_ahead_of_the_one_that_it_is_made_of(self):
        self.same(is_row(TURNED, [("b", 0), ("a", 0)]), False)
        two = Train("a", 25, Step("west.ey.1", [4, 9]), Step("ey.ez.1", [5]))
        made = Train("b", 25, Step("ez.east.1", [5]), out=1)
        plan = Plan(LINE, two, made, turns=[("b", "a", 5)])
        self.same([is_row(plan, [("a", 0), ("a", 1), ("b", 0)]), is_row(plan, [("a", 0), ("b", 0), ("a", 1)])],
                  [True, False])

    def test_values_that_are_no_lists(self):
        for value in ANYTHING + [{}, {entry: 1 for entry in FOR_A}, "abcdef", 6]:
            self.same(is_row(PLAN, value), False)
        for value in ANYTHING:
            self.same(is_row(Plan(PLACE), value), value in ([], ()))

    def test_rows_at_random(self):
        for seed in range(60):
            chance = random.Random(seed)
            plan = some_plan(chance)
            row = some_row(chance, plan)
            self.same(is_row(plan, row), True)
            chance.shuffle(row)
            right = all(row.index((name, at)) < row.index((name, at + 1))
                        for name, at in row if (name, at + 1) in row)
            made = all(row.index((other, len(plan.train_of(other)) - 1)) < row.index((name, 0))
                       for name, other, _ in plan.turns())
            self.same(is_row(plan, row), right and made)


class TableTest(Case):
    def test_firsts_are_copied(self):
        firsts = list(FIRSTS)
        table = Table(plan=PLAN, firsts=firsts)
        firsts.clear()
        self.same(table.firsts(), FIRSTS)
        self.is_new_list(table.firsts)
        self.assertEqual(table.plan, PLAN)
        self.same(Table(PLAN, tuple(FIRSTS)).firsts(), FIRSTS)

    def test_invalid_tables(self):
        for value in ANYTHING + [FIRSTS[:3], FIRSTS + [True], [1, 0, 1, 0], [True, False, True, 0], [1, *FIRSTS[1:]],
                                 [None, *FIRSTS[1:]], ["", *FIRSTS[1:]], [[True], *FIRSTS[1:]], "abcd", {0: True},
                                 {True: 1, False: 2, 0.5: 3, 2: 4}, [FIRSTS]]:
            self.refused(InvalidTable(value), Table, PLAN, value)
        for value in ANYTHING:
            if value not in ([], ()):
                self.refused(InvalidTable(value), Table, Plan(PLACE), value)

    def test_of_row(self):
        self.same([Table.of_row(PLAN, FOR_A).firsts(), Table.of_row(plan=PLAN, row=FOR_A[3:] + FOR_A[:3]).firsts()],
                  [[True] * 4, [False] * 4])
        row = [("a", 0), ("b", 0), ("b", 1), ("a", 1), ("b", 2), ("a", 2)]
        table = Table.of_row(PLAN, tuple(row))
        self.assertIs(type(table), Table)
        self.same([table.firsts(), Table.of_row(Plan(PLACE), []).firsts()], [[True, True, False, False], []])
        for value in ANYTHING + [FOR_A[:5], FOR_A[::-1]]:
            self.refused(InvalidRow(value), Table.of_row, PLAN, value)

    def test_of_row_by_the_definition(self):
        for seed in range(60):
            chance = random.Random(seed)
            plan = some_plan(chance)
            row = some_row(chance, plan)
            self.same(Table.of_row(plan, row).firsts(),
                      [row.index(one) < row.index(other) for one, other in table_pairs(plan)])

    def test_is_ahead(self):
        table = Table(PLAN, FIRSTS)
        for (one, other), first in zip(PAIRS, FIRSTS):
            self.same([table.is_ahead(one, other), table.is_ahead(other, one)], [first, not first])
        self.same(table.is_ahead(one=("b", 0), other=("a", 2)), True)
        for one, other in ((("a", 0), ("b", 0)), (("a", 0), ("a", 1)), (("a", 0), ("a", 0)), (("a", False), ("b", 1)),
                           (("a", 0), ("b", True)), (("b", True), ("a", 0)), (["a", 0], ("b", 1)), (PAIRS[0], None)):
            self.same(table.is_ahead(one, other), None)
        for value in ANYTHING:
            self.same([table.is_ahead(value, ("b", 1)), table.is_ahead(("a", 0), value), table.is_ahead(value, value)],
                      [None] * 3)

    def test_turned(self):
        table = Table(PLAN, FIRSTS)
        self.same([table.turned(at).firsts() for at in range(4)],
                  [[False, False, True, False], [True, True, True, False], [True, False, False, False], [True, False, True, True]])
        self.same([table.firsts(), table.turned(at=1).turned(1) == table], [FIRSTS, True])
        for value in [value for value in ANYTHING if value not in (0, 1) or isinstance(value, bool)] + [4, -4, "0"]:
            self.refused(InvalidNumber(value), table.turned, value)
        self.refused(InvalidNumber(0), Table(Plan(PLACE), []).turned, 0)

    def test_first_of(self):
        table = Table(PLAN, FIRSTS)
        self.same([table.first_of(pair) for pair in PAIRS], [("a", 0), ("b", 2), ("a", 1), ("b", 0)])
        self.same(table.first_of(pair=PAIRS[3]), ("b", 0))
        for value in ANYTHING + [PAIRS[0][::-1], list(PAIRS[0]), (("a", 0), ("b", 0)), (("a", False), ("b", 1)),
                                 (("a", 0), ("b", True)), (*PAIRS[0], 0), (["a", 0], ("b", 1)), ("a", 0)]:
            self.refused(UnknownEntry(value), table.first_of, value)

    def test_length_truth_and_repr(self):
        one, none = Table(PLAN, FIRSTS), Table(Plan(PLACE), [])
        self.same([len(one), len(none), bool(one), bool(none), repr(one), repr(none)],
                  [4, 0, True, True, "Table(4 pairs)", "Table(0 pairs)"])
        single = Plan(PLACE, Train("a", 5, Step("west.su.1", [1, 2, 3])), Train("b", 5, Step("west.su.1", [1, 2, 3])))
        self.same(repr(Table(single, [True])), "Table(1 pairs)")

    def test_equal(self):
        table = Table(PLAN, FIRSTS)
        self.assertTrue(table == Table(Plan(PLACE, A, B), tuple(FIRSTS)))
        self.assertFalse(table != Table(PLAN, FIRSTS))
        for other in (table.turned(0), table.turned(3), Table(Plan(PLACE, A, B.longer(1)), FIRSTS),
                      Table(Plan(PLACE, A, B, waits=[("b", 0, "a", 0, 1)]), FIRSTS), FIRSTS, PLAN, *ANYTHING):
            self.assertFalse(table == other)
            self.assertTrue(table != other)
        self.assertFalse(Table(Plan(PLACE), []) == Table(Plan(LINE), []))
        self.assertFalse(Table(Plan(PLACE, A), []) == Table(Plan(PLACE, C), []))


if __name__ == "__main__":
    unittest.main()
