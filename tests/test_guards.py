import random
import unittest

from chances import LINE, PLACE, some_plan
from helpers import ANYTHING, Case
from oracles import state_of
from ringlessday.errors import (Barred, DayError, Finished, InvalidDeed, Lacking, NothingLeft, Refused, TooMany,
                                UnknownName, Unready)
from ringlessday.guards import GuardedMachine
from ringlessday.machine import Machine
from ringlessday.plans import Plan
from ringlessday.safety import Safety
from ringlessday.trains import Step, Train
from test_machine import A, B, BACK, C, STAYS
from test_safety import many_standings

PLAN = Plan(PLACE, A, B)


class GuardedTest(Case):
    def setUp(self):
        self.machine = GuardedMachine(PLAN)
        self.machine.ask("a")
        self.machine.run("a")

    def test_it_is_a_machine(self):
        self.assertIsInstance(self.machine, Machine)
        self.assertEqual(GuardedMachine(plan=PLAN).plan, PLAN)

    def test_too_many_standings(self):
        self.refused(TooMany("standings", 4000), GuardedMachine, many_standings(3, 3, 3, 3, 3, 3))
        self.same(GuardedMachine(many_standings(4, 4, 4, 3, 3, 1)).choices(), [])

    def test_barred(self):
        before = state_of(self.machine), self.machine.history()
        self.refused(Barred("b", 0), self.machine.ask, "b")
        self.refused(Barred("b", 0), self.machine.would, "b")
        self.refused(Barred("b", 0), self.machine.would, train="b")
        self.same((state_of(self.machine), self.machine.history()), before)
        self.same(Machine(PLAN).ask("b"), [])

    def test_the_step_that_it_asked_for(self):
        found = set()
        for seed in range(300):
            plan = some_plan(random.Random(seed), most_trains=3)
            for standing, train in Safety(plan).bars():
                found.add(standing[plan.trains().index(train)])
                machine = self.led_to(plan, standing)
                self.refused(Barred(train, standing[plan.trains().index(train)]), machine.ask, train)
        self.assertTrue(found >= {0, 1})

    def led_to(self, plan, standing):
        """A guarded machine whose deeds have led to a safe standing."""
        machine = GuardedMachine(plan)
        while machine.standing != standing:
            for train in machine.choices():
                behind = [at + (name == train) for name, at in zip(plan.trains(), machine.standing)]
                if standing in Safety(plan).behind(tuple(behind)):
                    machine.ask(train)
                    machine.run_all()
                    break
        return machine

    def test_behind_all_other_errors(self):
        for value in ANYTHING + ["c"]:
            if value not in ("a", "b"):
                self.refused(UnknownName(value), self.machine.ask, value)
        # The entry of b into f leads into a doomed standing, but something else is in the way first.
        waits = GuardedMachine(Plan(PLACE, A, B, waits=[("b", 0, "a", 0, 0)]))
        waits.ask("a")
        self.refused(Lacking("b", "a"), waits.ask, "b")
        waits.run("a")
        self.refused(Barred("b", 0), waits.ask, "b")
        self.machine.ask("a")
        self.refused(Unready("a"), self.machine.ask, "a")
        self.machine.run("a")
        self.machine.ask("a")
        self.refused(Finished("a"), self.machine.ask, "a")
        # The element f is locked, though the standing behind it is safe.
        self.same(self.machine.would("b"), ("f", "a"))
        self.refused(Refused("b", "f", "a"), self.machine.ask, "b")

    def test_refused_ahead_of_barred(self):
        found = 0
        for seed in range(300):
            plan = some_plan(random.Random(seed), most_trains=3)
            machine, guarded = Machine(plan), GuardedMachine(plan)
            safety = Safety(plan)
            for deed_at in range(12):
                for train in plan.trains():
                    told = self.told(machine, train)
                    behind = tuple([at + (name == train) for name, at in zip(plan.trains(), machine.standing)])
                    if told is None and not safety.is_safe(behind):
                        step = machine.standing[plan.trains().index(train)]
                        self.refused(Barred(train, step), guarded.ask, train)
                        found += 1
                    else:
                        self.same(repr(self.told(guarded, train)), repr(told))
                deeds = [(word, train) for word in ("ask", "move", "move") for train in plan.trains()]
                if not deeds:
                    break
                deed = random.Random(seed + deed_at).choice(deeds)
                try:
                    guarded.deeds(deed)
                    machine.deeds(deed)
                except (DayError, NothingLeft):
                    pass
                self.same((state_of(guarded), guarded.history()), (state_of(machine), machine.history()))
        self.assertTrue(found)

    def told(self, machine, train):
        try:
            return machine.would(train)
        except DayError as error:
            return (type(error).__name__, vars(error))

    def test_choices(self):
        machine = GuardedMachine(Plan(PLACE, B, A))
        self.same(machine.choices(), ["b", "a"])
        machine.ask("a")
        self.same(machine.choices(), [])
        machine.run("a")
        self.same(machine.choices(), ["a"])
        self.is_new_list(machine.choices)
        turned = GuardedMachine(Plan(LINE, STAYS, BACK, turns=[("b", "a", 5)]))
        self.same(turned.choices(), ["a"])
        self.same(GuardedMachine(Plan(PLACE)).choices(), [])

    def test_the_first_entry_may_be_doomed(self):
        plan = Plan(LINE, Train("a", 5, Step("west.ey.1", [1, 2])), Train("b", 5, Step("west.ey.1", [1, 2])))
        machine = GuardedMachine(plan)
        self.refused(Barred("a", 0), machine.ask, "a")
        self.refused(Barred("b", 0), machine.ask, "b")
        self.same([machine.choices(), machine.history()], [[], []])

    def test_deeds(self):
        before = state_of(self.machine), self.machine.history()
        self.refused(Barred("b", 0), self.machine.deeds, ("ask", "a"), ("move", "a"), ("ask", "b"))
        self.same((state_of(self.machine), self.machine.history(), self.machine.busy), (*before, False))
        for value in ANYTHING:
            self.refused(InvalidDeed(value), self.machine.deeds, ("ask", "b"), value)
        self.assertIsNone(self.machine.deeds(("ask", "a"), ("move", "a"), ("move", "a"), ("ask", "a")))
        self.assertIsNone(self.machine.deeds())
        self.same([self.machine.standing, self.machine.busy], [(3, 0), False])

    def test_history_back_and_repr(self):
        self.same([self.machine.history(), repr(self.machine)], [[("ask", "a")] + [("move", "a")] * 3, "Machine(4 deeds)"])
        self.assertIsNone(self.machine.back())
        self.same([self.machine.passed("a"), self.machine.history()], [(1, 2), [("ask", "a")] + [("move", "a")] * 2])
        for _ in range(3):
            self.machine.back()
        self.same([self.machine.standing, self.machine.ask("b")], [(0, 0), []])
        self.machine.back()
        self.refused(NothingLeft(), self.machine.back)

    def test_twin(self):
        twin = self.machine.twin()
        self.assertIs(type(twin), GuardedMachine)
        self.refused(Barred("b", 0), twin.ask, "b")
        self.same((state_of(twin), twin.history()), (state_of(self.machine), self.machine.history()))
        before = state_of(self.machine)
        twin.ask("a")
        twin.run("a")
        self.same([state_of(self.machine), self.machine.choices(), twin.choices()], [before, ["a"], ["a"]])
        after = twin.history()
        self.machine.back()
        self.same(twin.history(), after)

    def test_all_else_is_as_that_of_a_machine(self):
        machine, guarded = Machine(Plan(PLACE, C, B)), GuardedMachine(Plan(PLACE, C, B))
        for one in (machine, guarded):
            self.same([one.ask("c"), one.move("c"), one.run("c"), one.run_all()], [["p", "q"], [], ["p", "q", "w"], None])
            self.refused(NothingLeft(), one.move, "c")
            self.refused(UnknownName("x"), one.run, "x")
            self.refused(UnknownName("x"), one.keeper, "x")
            self.refused(UnknownName("x"), one.has_arrived, "x", 0)
        self.same(state_of(machine), state_of(guarded))
        self.same([guarded.keeper("l"), guarded.guards("q"), guarded.position("p"), guarded.body("c"), guarded.passed("c"),
                   guarded.has_arrived("c", 0), guarded.has_arrived("c", 1), guarded.standing, guarded.is_over,
                   guarded.busy, guarded.free],
                  ["c", [], "right", ["l"], (1, 3), True, False, (1, 0), False, False, ["e", "f", "p", "q", "u", "w"]])
        while guarded.choices():
            guarded.ask(guarded.choices()[0])
            guarded.run_all()
        self.same(guarded.is_over, True)


if __name__ == "__main__":
    unittest.main()
