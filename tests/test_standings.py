import random
import unittest
from itertools import product

from chances import LINE, PLACE, SHORT, STAND_ON_POINT, some_plan
from helpers import ANYTHING, Case
from oracles import PlainStandings
from ringlessday.errors import Finished, InvalidStanding, UnknownName
from ringlessday.plans import Plan
from ringlessday.records import play_row
from ringlessday.standings import after, entry_rows, hindrance, lets, locked, size
from ringlessday.trains import Step, Train
from test_machine import A, B, BACK, FROM_POINT, ON_POINT, STAYS

PLAN = Plan(PLACE, A, B)
TURNED = Plan(LINE, STAYS, BACK, turns=[("b", "a", 5)])
WRONG = [value for value in ANYTHING + [[0, 0], (0,), (0, 0, 0), (4, 0), (0, 4), (-1, 0), (0, None), (True, 0), (0, False),
                                        ("0", "0"), ((0, 0),), (10 ** 9, 0), [(0, 0)]]]


def every_standing(plan):
    return list(product(*[range(len(plan.train_of(name)) + 1) for name in plan.trains()]))


class InvalidTest(Case):
    def test_invalid_standings(self):
        for value in WRONG:
            self.refused(InvalidStanding(value), lets, PLAN, value)
            self.refused(InvalidStanding(value), locked, PLAN, value)
            self.refused(InvalidStanding(value), after, PLAN, value, "x")
            self.refused(InvalidStanding(value), hindrance, PLAN, value, None)
            self.refused_first(InvalidStanding(value), entry_rows(PLAN, value))
        for value in WRONG:
            if value != ():
                self.refused(InvalidStanding(value), lets, Plan(PLACE), value)

    def test_unknown_names_and_finished(self):
        for value in [value for value in ANYTHING if value != "a"] + ["c", ("a", 0)]:
            self.refused(UnknownName(value), after, PLAN, (3, 3), value)
            self.refused(UnknownName(value), hindrance, PLAN, (3, 3), value)
        for standing, train in (((3, 0), "a"), ((0, 3), "b"), ((3, 3), "a")):
            self.refused(Finished(train), after, PLAN, standing, train)
            self.refused(Finished(train), hindrance, PLAN, standing, train)


class QuestionsTest(Case):
    def test_size(self):
        self.same([size(PLAN), size(plan=TURNED), size(Plan(PLACE))], [16, 4, 1])

    def test_lets(self):
        self.same([lets(PLAN, (0, 0)), lets(PLAN, (1, 0)), lets(PLAN, (1, 1)), lets(plan=PLAN, standing=(2, 1)),
                   lets(PLAN, (3, 3)), lets(PLAN, (3, 0)), lets(Plan(PLACE), ())],
                  [["a", "b"], ["a", "b"], ["a"], [], [], ["b"], []])

    def test_lets_of_standings_that_are_not_reached(self):
        self.same([lets(PLAN, (2, 2)), lets(PLAN, (1, 2)), lets(PLAN, (0, 2))], [["a", "b"], ["a", "b"], ["b"]])
        # The train b has made its entry, though the one that it is made of has not begun.
        self.same([lets(TURNED, (0, 1)), lets(TURNED, (0, 0)), lets(TURNED, (1, 0))], [["a"], ["a"], ["b"]])

    def test_after(self):
        self.same([after(PLAN, (0, 0), "a"), after(PLAN, (1, 2), "b"), after(plan=PLAN, standing=(2, 1), train="a")],
                  [(1, 0), (1, 3), (3, 1)])
        self.same(after(TURNED, (0, 0), "b"), (0, 1))

    def test_locked(self):
        self.same([locked(PLAN, (0, 0)), locked(PLAN, (1, 0)), locked(PLAN, (1, 1)), locked(plan=PLAN, standing=(3, 3))],
                  [[], ["u"], ["f", "u"], []])
        self.same([locked(TURNED, (1, 0)), locked(TURNED, (1, 1)), locked(TURNED, (0, 1))], [["y"], [], []])
        self.same(locked(Plan(STAND_ON_POINT, ON_POINT), (1,)), ["p", "q"])


class HindranceTest(Case):
    def test_none(self):
        self.same([hindrance(PLAN, (0, 0), "a"), hindrance(PLAN, (1, 1), "a")], [None, None])

    def test_by_a_train(self):
        self.same([hindrance(PLAN, (2, 1), "a"), hindrance(PLAN, (2, 1), "b")], [("a", "f", "b"), ("b", "e", "a")])
        self.same(hindrance(plan=PLAN, standing=(1, 1), train="b"), ("b", "u", "a"))

    def test_by_a_turn_and_by_waits_in_their_order(self):
        d = Train("d", 5, Step("east.wz.1", [3, 9]), Step("wz.wy.1", [5]))
        e = Train("e", 5, Step("east.wz.1", [2, 7]))
        plan = Plan(LINE, d, STAYS, e, BACK, turns=[("b", "a", 5)],
                    waits=[("b", 0, "e", 0, 9), ("b", 0, "d", 0, 0), ("b", 0, "e", 0, 1)])
        self.same([hindrance(plan, (0, 0, 0, 0), "b"), hindrance(plan, (0, 1, 0, 0), "b"),
                   hindrance(plan, (0, 1, 1, 0), "b"), hindrance(plan, (1, 0, 1, 0), "b")],
                  [("b", None, "a"), ("b", None, "e"), ("b", None, "d"), ("b", None, "a")])

    def test_the_first_element_and_the_first_train(self):
        one, two = Train("c", 15, Step("west.su.1", [4, 5, 11])), Train("d", 15, Step("west.su.1", [4, 5, 11]))
        west = Train("x", 5, Step("east.n.1", [1]), Step("n.tu.1", [1, 2, 3]))
        # Both are in u, which the machine would never grant.
        for trains, first in (([one, two], "c"), ([two, one], "d")):
            self.same(hindrance(Plan(PLACE, *trains, west), (1, 1, 1), "x"), ("x", "u", first))

    def test_by_the_train_that_took_a_stand_over(self):
        heir = Train("b", 25, Step("ey.ez.1", [5]), Step("ez.eo.1", [5]), Step("eo.east.1", [5]), out=2)
        waits = Train("d", 5, Step("west.ey.1", [4, 9]))
        for trains in ([STAYS, waits, heir], [waits, STAYS, heir], [STAYS, heir, waits]):
            plan = Plan(SHORT, *trains, turns=[("b", "a", 5)])
            self.same(plan.clear_of(("a", 0), "y"), ("b", 2, 5))
            told = []
            for entered in ({"a": 1}, {"a": 1, "b": 1}, {"a": 1, "b": 2}, {"a": 1, "b": 3}, {"b": 1}):
                told.append(hindrance(plan, tuple([entered.get(name, 0) for name in plan.trains()]), "d"))
            self.same(told, [("d", "y", "a"), ("d", "y", "b"), ("d", "y", "b"), None, None])

    def test_the_first_train_in_order_that_locks_it(self):
        # In the place of the train that stays, the one that is made of it counts, and it is the last one in order.
        heir = Train("b", 25, Step("ey.ez.1", [5]), Step("ez.eo.1", [5]), Step("eo.east.1", [5]), out=2)
        one, other = Train("c", 5, Step("west.ey.1", [4, 9])), Train("d", 5, Step("west.ey.1", [4, 9]))
        plan = Plan(SHORT, STAYS, one, heir, other, turns=[("b", "a", 5)])
        self.same([hindrance(plan, (1, 1, 0, 0), "d"), hindrance(plan, (1, 1, 1, 0), "d"), hindrance(plan, (1, 0, 1, 0), "d")],
                  [("d", "y", "a"), ("d", "y", "c"), ("d", "y", "b")])
        self.same(hindrance(plan, (0, 1, 0, 0), "d"), ("d", "y", "c"))

class EntryRowsTest(Case):
    def test_rows(self):
        first = [("a", 0), ("a", 1), ("a", 2), ("b", 0), ("b", 1), ("b", 2)]
        second = [("b", 0), ("b", 1), ("b", 2), ("a", 0), ("a", 1), ("a", 2)]
        self.same(list(entry_rows(PLAN, (0, 0))), [first, second])
        self.same(list(entry_rows(plan=PLAN, standing=(1, 0))), [first[1:]])
        self.same(list(entry_rows(PLAN, (2, 1))), [])

    def test_of_the_end(self):
        self.same(list(entry_rows(PLAN, (3, 3))), [[]])

    def test_of_a_plan_without_trains(self):
        self.same(list(entry_rows(Plan(PLACE), ())), [[]])

    def test_of_a_standing_that_is_not_reached(self):
        self.same(list(entry_rows(PLAN, (3, 2))), [[("b", 2)]])
        self.same(list(entry_rows(TURNED, (0, 1))), [[("a", 0)]])

    def test_errors_when_the_first_item_is_requested(self):
        rows = entry_rows(PLAN, (4, 0))
        self.refused_first(InvalidStanding((4, 0)), rows)
        self.assertEqual(list(rows), [])

    def test_two_generators_in_turn_and_new_lists(self):
        one, other = entry_rows(PLAN, (0, 0)), entry_rows(PLAN, (0, 0))
        row = next(one)
        row.clear()
        self.same(next(other)[0], ("a", 0))
        self.same([next(one)[0], next(other)[0]], [("b", 0), ("b", 0)])
        self.same([list(one), list(other)], [[], []])


class FactsTest(Case):
    def test_every_standing_by_the_definitions(self):
        for seed in range(150):
            plan = some_plan(random.Random(seed), most_trains=3)
            plain = PlainStandings(plan)
            self.same(size(plan), len(every_standing(plan)))
            for standing in every_standing(plan):
                self.same(lets(plan, standing), plain.lets(standing))
                self.same(locked(plan, standing), plain.locked(standing))
                for name, _ in plain.next_entries(standing):
                    self.same(hindrance(plan, standing, name), plain.hindrance(standing, name))
                    self.same(after(plan, standing, name), plain.after(standing, name))

    def test_rows_by_the_definition(self):
        chance = random.Random(5)
        for seed in range(100):
            plan = some_plan(random.Random(seed), most_trains=3, most_steps=2)
            for standing in [(0,) * len(plan), chance.choice(every_standing(plan))]:
                self.same(list(entry_rows(plan, standing)), PlainStandings(plan).rows(standing))

    def test_what_is_locked_depends_on_the_standing_alone(self):
        for seed in range(80):
            plan = some_plan(random.Random(seed), most_trains=3, most_steps=2)
            for row in list(entry_rows(plan, (0,) * len(plan)))[:12]:
                for many in range(len(row) + 1):
                    machine = play_row(plan, row[:many])
                    free = [name for name in plan.layout.element_names() if name not in machine.free]
                    self.same(locked(plan, machine.standing), free)

    def test_the_machine_grants_what_is_let(self):
        for seed in range(80):
            chance = random.Random(seed)
            plan = some_plan(chance)
            row = []
            while True:
                machine = play_row(plan, row)
                standing = machine.standing
                self.same([name for name in plan.trains() if grants(machine, name)], lets(plan, standing))
                for name in plan.trains():
                    if name not in lets(plan, standing) and standing[plan.trains().index(name)] < len(plan.train_of(name)):
                        told = hindrance(plan, standing, name)
                        if told[1] is None:
                            self.assertRaises(Exception, machine.ask, name)
                        else:
                            self.same(machine.would(name), told[1:])
                if not lets(plan, standing):
                    break
                name = chance.choice(lets(plan, standing))
                row.append((name, standing[plan.trains().index(name)]))


def grants(machine, name):
    try:
        return machine.would(name) is None
    except ValueError:
        return False


if __name__ == "__main__":
    unittest.main()
