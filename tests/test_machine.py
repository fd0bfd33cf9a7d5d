import random
import unittest

from chances import CROSS, LINE, LINK, PLACE, STAND_ON_POINT, some_plan
from helpers import ANYTHING, Case
from oracles import PlainMachine, do_alike, state_of
from ringlessday.errors import Finished, InvalidDeed, Lacking, NothingLeft, Refused, UnknownName, Unready
from ringlessday.machine import Machine
from ringlessday.plans import Plan
from ringlessday.trains import Step, Train

A = Train("a", 15, Step("west.su.1", [4, 5, 11]), Step("su.m.1", [1, 5]), Step("m.east.1", [4]), out=3)
B = Train("b", 15, Step("east.n.1", [4]), Step("n.tu.1", [4, 5, 11]), Step("tu.west.1", [1, 5]), out=3)
# Over the lower track, ahead of a in the order of the plan.
C = Train("c", 15, Step("west.sl.1", [4, 5, 11]), Step("sl.m.1", [1, 5]), Step("m.east.1", [4]), out=3)
STAYS = Train("a", 25, Step("west.ey.1", [4, 9]))
BACK = Train("b", 25, Step("wy.west.1", [5]), out=2)
# It stands on the point p and has q as a flank; the next one goes on from there.
ON_POINT = Train("a", 9, Step("west.s.1", [3, 5]))
FROM_POINT = Train("b", 9, Step("s.east.1", [4]), out=2)


class AskTest(Case):
    def test_granted(self):
        machine = Machine(Plan(PLACE, A, B))
        self.same(machine.ask("a"), [])
        self.same([machine.keeper(name) for name in "wpuqlef"], ["a", "a", "a", None, None, None, None])
        self.same([machine.guards(name) for name in "wpuqlef"], [[], [], [], ["a"], [], [], []])
        self.same([machine.free, machine.standing, machine.passed("a")], [["e", "f", "l"], (1, 0), (1, 0)])

    def test_points_are_turned(self):
        machine = Machine(Plan(PLACE, C))
        self.same([machine.position("p"), machine.position("q"), machine.position("w")], ["left", "left", ""])
        self.same(machine.ask(train="c"), ["p", "q"])
        self.same([machine.position("p"), machine.position("q")], ["right", "right"])
        machine.run("c")
        self.same(machine.ask("c"), [])

    def test_unknown_names(self):
        machine = Machine(Plan(PLACE, A, B))
        for value in [value for value in ANYTHING if value != "a"] + ["c", "west.su.1", ("a", 0), ["a"]]:
            for call in (machine.ask, machine.would, machine.move, machine.run, machine.body, machine.passed):
                self.refused(UnknownName(value), call, value)
            self.refused(UnknownName(value), machine.has_arrived, value, None)
        self.same(machine.history(), [])

    def test_finished_ahead_of_all_else(self):
        machine = Machine(Plan(LINE, STAYS, BACK, turns=[("b", "a", 5)]))
        machine.ask("a")
        # Its head has not even begun to move.
        self.refused(Finished("a"), machine.ask, "a")
        self.refused(Finished("a"), machine.would, "a")
        machine.run("a")
        self.refused(Finished("a"), machine.ask, "a")

    def test_unready_ahead_of_lacking(self):
        plan = Plan(PLACE, A, B, waits=[("a", 1, "b", 2, 0)])
        machine = Machine(plan)
        machine.ask("a")
        for _ in range(3):
            self.refused(Unready("a"), machine.ask, "a")
            self.refused(Unready("a"), machine.would, "a")
            machine.move("a")
        self.refused(Lacking("a", "b"), machine.ask, "a")

    def test_lacking_by_a_turn(self):
        machine = Machine(Plan(LINE, STAYS, BACK, turns=[("b", "a", 5)]))
        self.refused(Lacking("b", "a"), machine.ask, "b")
        machine.ask("a")
        machine.move("a")
        self.refused(Lacking("b", "a"), machine.ask, "b")
        self.refused(Lacking("b", "a"), machine.would, "b")
        machine.move("a")
        self.same(machine.would("b"), None)
        self.same(machine.ask("b"), [])

    def test_lacking_by_a_turn_ahead_of_waits_and_by_waits_in_their_order(self):
        d = Train("d", 5, Step("east.wz.1", [3, 9]), Step("wz.wy.1", [5]))
        e = Train("e", 5, Step("east.wz.1", [2, 7]))
        plan = Plan(LINE, d, STAYS, e, BACK, turns=[("b", "a", 5)],
                    waits=[("b", 0, "e", 0, 9), ("b", 0, "d", 0, 0), ("b", 0, "e", 0, 1)])
        machine = Machine(plan)
        machine.ask("d")
        self.refused(Lacking("b", "a"), machine.ask, "b")
        machine.ask("a")
        machine.run("a")
        self.refused(Lacking("b", "e"), machine.ask, "b")
        machine.run("d")
        self.refused(Lacking("b", "e"), machine.would, "b")
        turned = Plan(LINE, d, STAYS, BACK, turns=[("b", "a", 5)], waits=[("b", 0, "d", 0, 9), ("b", 0, "d", 1, 9)])
        machine = Machine(turned)
        for deed in (("ask", "a"), ("move", "a"), ("move", "a"), ("ask", "d"), ("move", "d")):
            self.refused(Lacking("b", "d" if machine.has_arrived("a", 0) else "a"), machine.would, "b")
            machine.deeds(deed)
        self.refused(Lacking("b", "d"), machine.would, "b")

    def test_lacking_ahead_of_refused(self):
        machine = Machine(Plan(PLACE, A, C, waits=[("c", 0, "a", 1, 0)]))
        machine.ask("a")
        self.refused(Lacking("c", "a"), machine.ask, "c")
        machine.run("a")
        self.refused(Lacking("c", "a"), machine.ask, "c")
        machine.ask("a")
        machine.move("a")
        self.refused(Lacking("c", "a"), machine.would, "c")
        machine.move("a")
        self.same(machine.would("c"), None)

    def test_refused_with_the_first_element_and_the_first_train(self):
        machine = Machine(Plan(PLACE, C, A, B))
        machine.ask("a")
        self.same(machine.would("c"), ("p", "a"))
        self.refused(Refused("c", "p", "a"), machine.ask, "c")
        machine.run("a")
        # The tail of a is in u, and its flank is free again.
        self.same(machine.would("c"), None)
        machine.ask("c")
        for _ in range(2):
            machine.run("c")
            machine.ask("c")
        self.refused(Refused("b", "f", "c"), machine.ask, "b")

    def test_refused_by_several_trains(self):
        one, two = A, Train("d", 15, Step("west.su.1", [4, 5, 11]))
        for trains, first in (([one, two], "a"), ([two, one], "d")):
            machine = Machine(Plan(PLACE, *trains, Train("x", 5, Step("east.n.1", [1]), Step("n.tu.1", [1, 2, 3]))))
            for name in ("x", first):
                machine.ask(name)
            machine.run_all()
            self.same(machine.would("x"), ("u", first))

    def test_refused_by_a_guard(self):
        # The train to the north-east guards q to the left, and x needs it to the right; a is the first element.
        plan = Plan(LINK, Train("a", 3, Step("nw.n.1", [3]), Step("n.ne.1", [2, 6])),
                    Train("x", 3, Step("se.m.1", [2]), Step("m.nw.1", [1, 2, 3])))
        machine = Machine(plan)
        machine.deeds(("ask", "a"), ("move", "a"), ("ask", "x"), ("move", "x"))
        self.same(machine.would("x"), ("a", "a"))
        machine.ask("a")
        machine.move("a")
        self.same(machine.would("x"), ("p", "a"))
        machine.move("a")
        self.same(machine.would("x"), None)

    def test_a_refused_ask_changes_nothing(self):
        machine = Machine(Plan(PLACE, C, A))
        machine.ask("a")
        before = state_of(machine), machine.history()
        self.refused(Refused("c", "p", "a"), machine.ask, "c")
        self.refused(Unready("a"), machine.ask, "a")
        machine.would("c")
        self.same((state_of(machine), machine.history()), before)


class TakeOverTest(Case):
    def test_the_stand_and_its_flanks(self):
        machine = Machine(Plan(STAND_ON_POINT, ON_POINT, FROM_POINT, turns=[("b", "a", 5)]))
        self.same(machine.ask("a"), ["q"])
        machine.run("a")
        self.same([machine.keeper("p"), machine.guards("q"), machine.body("a")], ["a", ["a"], ["p"]])
        machine.ask("b")
        self.same([machine.keeper("p"), machine.guards("q"), machine.body("a"), machine.body("b")],
                  ["b", ["b"], [], ["p"]])
        self.same(machine.move("b"), ["p", "q"])
        self.same([machine.keeper("p"), machine.guards("q"), machine.body("b")], [None, [], ["e"]])
        self.same(machine.move("b"), ["e"])
        self.same(machine.free, ["e", "p", "q", "r", "w"])

    def test_refused_by_the_one_that_took_it_over(self):
        through = Train("d", 5, Step("west.north.1", [1, 2, 3, 4]), out=2)
        self.same(STAND_ON_POINT.route_of("west.north.1").names(), ["w", "p", "q", "r"])
        machine = Machine(Plan(STAND_ON_POINT, ON_POINT, through, FROM_POINT, turns=[("b", "a", 5)]))
        machine.ask("a")
        machine.run("a")
        self.same(machine.would("d"), ("p", "a"))
        machine.ask("b")
        self.same(machine.would("d"), ("p", "b"))

    def test_nothing_is_taken_over_by_later_steps(self):
        first = Train("a", 5, Step("west.ey.1", [4, 9]))
        second = Train("b", 5, Step("ey.ez.1", [5]), Step("ez.east.1", [4]), out=2)
        third = Train("c", 5, Step("west.ey.1", [4, 9]))
        machine = Machine(Plan(LINE, first, second, third, turns=[("b", "a", 0)]))
        for name in "abcb":
            machine.ask(name)
            machine.run(name)
        self.same([machine.free, machine.body("a"), machine.body("b"), machine.body("c")],
                  [["v", "x", "z"], [], [], ["y"]])

    def test_a_train_that_stays_for_good(self):
        machine = Machine(Plan(LINE, STAYS))
        machine.ask("a")
        self.same(machine.run("a"), ["x"])
        self.same([machine.body("a"), machine.keeper("y"), machine.is_over], [["y"], "a", True])
        self.refused(NothingLeft(), machine.move, "a")


class MoveTest(Case):
    def test_what_is_let_go(self):
        machine = Machine(Plan(PLACE, A, B))
        self.refused(NothingLeft(), machine.move, "a")
        machine.ask("a")
        self.same([machine.move("a"), machine.move("a"), machine.move(train="a")], [[], [], ["p", "q", "w"]])
        self.refused(NothingLeft(), machine.move, "a")
        machine.ask("a")
        self.same([machine.move("a"), machine.move("a")], [[], ["p", "q", "u"]])
        machine.ask("a")
        # Behind the last section one more move takes the train out of the area.
        self.same([machine.move("a"), machine.passed("a"), machine.is_over], [["e"], (3, 1), False])
        self.same([machine.move("a"), machine.passed("a"), machine.free],
                  [["f"], (3, 1), ["e", "f", "l", "p", "q", "u", "w"]])
        self.refused(NothingLeft(), machine.move, "a")

    def test_a_lock_by_another_entry_stays(self):
        # The long train still guards q and holds p for its first step when the second one holds q and guards p.
        long = Train("a", 40, Step("west.su.1", [4, 5, 11]), Step("su.m.1", [1, 5]), Step("m.east.1", [4]), out=3)
        plan = Plan(PLACE, long)
        self.same([plan.clear_of(("a", 0), "p"), plan.clear_of(("a", 0), "q"), plan.clear_of(("a", 1), "p")],
                  [("a", 1, 5), ("a", 1, 5), ("a", 2, 4)])
        machine = Machine(plan)
        machine.ask("a")
        self.same(machine.run("a"), [])
        machine.ask("a")
        seen = [(machine.keeper("p"), machine.guards("p"), machine.keeper("q"), machine.guards("q"))]
        self.same([machine.move("a"), machine.move("a")], [["w"], []])
        seen.append((machine.keeper("p"), machine.guards("p"), machine.keeper("q"), machine.guards("q")))
        self.same(seen, [("a", ["a"], "a", ["a"]), (None, ["a"], "a", [])])
        machine.ask("a")
        self.same([machine.move("a"), machine.move("a")], [["p", "q", "u"], ["e", "f"]])

    def test_run(self):
        machine = Machine(Plan(PLACE, A, B))
        self.same(machine.run("a"), [])
        machine.ask("a")
        self.same(machine.run(train="a"), ["p", "q", "w"])
        self.same(machine.history(), [("ask", "a"), ("move", "a"), ("move", "a"), ("move", "a")])
        machine.ask("a")
        machine.run("a")
        machine.ask("a")
        # What the moves return is joined in the order of the moves.
        self.same(machine.run("a"), ["e", "f"])
        order = Machine(Plan(PLACE, Train("b", 5, Step("east.n.1", [1]), Step("n.tu.1", [1, 2, 3]))))
        order.deeds(("ask", "b"), ("move", "b"), ("ask", "b"))
        self.same(order.run("b"), ["f", "e", "p", "q"])

    def test_run_all(self):
        machine = Machine(Plan(PLACE, B, A))
        machine.ask("a")
        machine.ask("b")
        self.assertIsNone(machine.run_all())
        self.same(machine.history()[2:], [("move", "b")] + [("move", "a")] * 3)
        self.assertIsNone(machine.run_all())
        self.same(len(machine.history()), 6)


class QuestionsTest(Case):
    def test_body(self):
        machine = Machine(Plan(PLACE, A))
        self.same(machine.body("a"), [])
        machine.ask("a")
        for body in ([], ["w"], ["p", "w"], ["u"]):
            self.same(machine.body(train="a"), body)
            if machine.passed("a")[1] < 3:
                machine.move("a")
        machine.ask("a")
        self.same(machine.body("a"), ["u"])
        machine.move("a")
        self.same(machine.body("a"), ["q", "u"])

    def test_passed_and_has_arrived(self):
        machine = Machine(Plan(PLACE, A))
        self.same([machine.passed("a"), machine.has_arrived("a", 0)], [(0, 0), False])
        machine.ask("a")
        self.same([machine.passed("a"), machine.has_arrived("a", 0)], [(1, 0), False])
        machine.move("a")
        machine.move("a")
        self.same([machine.passed("a"), machine.has_arrived("a", 0)], [(1, 2), False])
        machine.move("a")
        self.same([machine.passed(train="a"), machine.has_arrived(train="a", step=0)], [(1, 3), True])
        machine.ask("a")
        self.same([machine.passed("a"), machine.has_arrived("a", 0), machine.has_arrived("a", 1)], [(2, 0), True, False])
        for value in [value for value in ANYTHING if value != 0 or value is False] + [2, 3, "0", (0,), 10 ** 9]:
            self.same(machine.has_arrived("a", value), False)

    def test_has_arrived_with_the_last_step(self):
        train = Train("a", 5, Step("west.ey.1", [4, 9]), Step("ey.ez.1", [5]), Step("ez.east.1", [4]), out=3)
        machine = Machine(Plan(LINE, train))
        for _ in range(3):
            machine.ask("a")
            machine.run("a")
        self.same([machine.has_arrived("a", step) for step in range(4)], [True, True, True, False])
        machine.back()
        self.same([machine.has_arrived("a", 2), machine.is_over], [True, False])

    def test_keeper_guards_and_position_of_unknown_elements(self):
        machine = Machine(Plan(PLACE, A))
        for value in [value for value in ANYTHING if value not in PLACE.element_names()] + ["su", "west", "a"]:
            for call in (machine.keeper, machine.guards, machine.position):
                self.refused(UnknownName(value), call, value)
        self.same([machine.keeper(element="p"), machine.guards(element="p"), machine.position(element="p")],
                  [None, [], "left"])

    def test_a_plan_without_trains(self):
        machine = Machine(plan=Plan(PLACE))
        self.same([machine.standing, machine.is_over, machine.free, machine.busy, repr(machine)],
                  [(), True, ["e", "f", "l", "p", "q", "u", "w"], False, "Machine(0 deeds)"])
        machine.run_all()
        self.refused(NothingLeft(), machine.back)

    def test_is_over(self):
        machine = Machine(Plan(LINE, Train("a", 5, Step("west.ey.1", [4, 9]))))
        seen = [machine.is_over]
        machine.ask("a")
        for _ in range(2):
            seen.append(machine.is_over)
            machine.move("a")
        self.same(seen + [machine.is_over], [False, False, False, True])

    def test_plan_and_repr(self):
        plan = Plan(PLACE, A, B)
        machine = Machine(plan)
        self.assertEqual(machine.plan, plan)
        texts = [repr(machine)]
        machine.ask("a")
        texts.append(repr(machine))
        machine.run("a")
        self.same(texts + [repr(machine)], ["Machine(0 deeds)", "Machine(1 deeds)", "Machine(4 deeds)"])

    def test_lists_are_new(self):
        machine = Machine(Plan(PLACE, A))
        machine.ask("a")
        machine.move("a")
        for call in (machine.history, lambda: machine.guards("q"), lambda: machine.body("a"), lambda: machine.free):
            self.is_new_list(call)


class DeedsTest(Case):
    def setUp(self):
        self.machine = Machine(Plan(PLACE, A, B))

    def test_done_in_their_order(self):
        self.assertIsNone(self.machine.deeds(("ask", "a"), ("move", "a"), ("ask", "b"), ("move", "a"), ("move", "a")))
        self.same(self.machine.history(),
                  [("ask", "a"), ("move", "a"), ("ask", "b"), ("move", "a"), ("move", "a")])
        self.same([self.machine.standing, self.machine.passed("a"), self.machine.busy], [(1, 1), (1, 3), False])

    def test_no_deeds(self):
        before = state_of(self.machine)
        self.assertIsNone(self.machine.deeds())
        self.same([state_of(self.machine), self.machine.history(), self.machine.busy], [before, [], False])

    def test_all_or_none(self):
        self.machine.deeds(("ask", "a"), ("move", "a"))
        before = state_of(self.machine), self.machine.history()
        for error, deed in ((Unready("a"), ("ask", "a")), (UnknownName("x"), ("ask", "x")), (NothingLeft(), ("move", "b")),
                            (UnknownName(["a"]), ("move", ["a"])), (UnknownName(None), ("move", None))):
            self.refused(error, self.machine.deeds, ("move", "a"), deed, ("ask", "b"))
            self.same((state_of(self.machine), self.machine.history(), self.machine.busy), (*before, False))
        self.refused(Refused("b", "u", "a"), self.machine.deeds, ("ask", "b"), ("move", "b"), ("ask", "b"))
        self.same((state_of(self.machine), self.machine.history(), self.machine.busy), (*before, False))
        # The turn of the deed has come when the deeds ahead of it are done.
        self.refused(Finished("b"), Machine(Plan(LINE, Train("b", 5, Step("west.ey.1", [1, 2])))).deeds, ("ask", "b"),
                     ("ask", "b"))

    def test_invalid_deeds_ahead_of_everything_else(self):
        for value in ANYTHING + [["ask", "a"], ("ask",), ("ask", "a", "a"), ("run", "a"), ("Ask", "a"), ("", "a"),
                                 (["ask"], "a"), "ask a", ("a", "ask"), (True, "a"), ("back", "a")]:
            self.refused(InvalidDeed(value), self.machine.deeds, value)
            self.refused(InvalidDeed(value), self.machine.deeds, ("ask", "x"), ("move", "a"), value, None)
            self.refused(InvalidDeed(value), self.machine.deeds, ("ask", "a"), value)
            self.same((self.machine.history(), self.machine.busy, self.machine.standing), ([], False, (0, 0)))

    def test_deeds_ask_and_move_of_a_machine_behind_it(self):
        seen = []

        class Watched(Machine):
            def ask(self, train):
                seen.append(self.busy)
                return super().ask(train)

        machine = Watched(Plan(PLACE, A, B))
        machine.deeds(("ask", "a"))
        machine.ask("b")
        self.refused(Unready("a"), machine.deeds, ("ask", "a"))
        machine.run("a")
        machine.ask("a")
        self.same((seen, machine.busy), ([True, False, True, False], False))


class BackTest(Case):
    def test_single_deeds(self):
        machine = Machine(Plan(PLACE, C, B))
        states = []
        for name in "cccbbb":
            machine.run_all()
            for word in ("ask", "move"):
                states.append((state_of(machine), machine.history()))
                machine.deeds((word, name))
            machine.back()
            self.same((state_of(machine), machine.history()), states[-1])
            machine.move(name)
        while machine.history():
            many = len(machine.history())
            self.assertIsNone(machine.back())
            self.same(len(machine.history()), many - 1)
            for state, history in states:
                if history == machine.history():
                    self.same(state_of(machine), state)
        self.same(state_of(machine), state_of(Machine(Plan(PLACE, C, B))))
        self.refused(NothingLeft(), machine.back)

    def test_deeds_and_runs_are_taken_back_one_by_one(self):
        machine = Machine(Plan(PLACE, A))
        machine.deeds(("ask", "a"), ("move", "a"))
        machine.run("a")
        machine.back()
        self.same(machine.history(), [("ask", "a"), ("move", "a"), ("move", "a")])
        machine.back()
        machine.back()
        self.same([machine.history(), machine.standing, machine.passed("a")], [[("ask", "a")], (1,), (1, 0)])

    def test_points_are_turned_back(self):
        machine = Machine(Plan(PLACE, C))
        machine.ask("c")
        machine.back()
        self.same([machine.position("p"), machine.ask("c")], ["left", ["p", "q"]])

    def test_a_take_over_is_taken_back(self):
        machine = Machine(Plan(STAND_ON_POINT, ON_POINT, FROM_POINT, turns=[("b", "a", 5)]))
        machine.ask("a")
        machine.run("a")
        before = state_of(machine)
        machine.ask("b")
        machine.back()
        self.same(state_of(machine), before)


class TwinTest(Case):
    def test_it_goes_its_own_way(self):
        machine = Machine(Plan(PLACE, A, B))
        machine.deeds(("ask", "a"), ("move", "a"))
        twin = machine.twin()
        self.assertIs(type(twin), Machine)
        before = state_of(machine), machine.history()
        self.same((state_of(twin), twin.history()), before)
        twin.run("a")
        twin.ask("b")
        self.same((state_of(machine), machine.history()), before)
        after = state_of(twin), twin.history()
        machine.back()
        machine.back()
        machine.ask("b")
        self.same((state_of(twin), twin.history()), after)
        for _ in range(4):
            twin.back()
        self.same([twin.history(), twin.passed("a")], [[("ask", "a")], (1, 0)])


class FactsTest(Case):
    def test_every_deed_as_the_document_tells_it(self):
        for seed in range(150):
            chance = random.Random(seed)
            plan = some_plan(chance)
            machine, plain = Machine(plan), PlainMachine(plan)
            for _ in range(60 if plan.trains() else 0):
                word = chance.choice(["ask", "move", "move"])
                do_alike(self, machine, plain, word, chance.choice(plan.trains()))
            self.look_at_facts(machine)
            self.take_back(machine)

    def look_at_facts(self, machine):
        """No two trains have a section in their bodies, and no point is turned while it is locked."""
        again = Machine(machine.plan)
        for word, train in machine.history():
            free = again.free
            if word == "ask":
                self.assertTrue(set(again.ask(train)) <= set(free))
            else:
                again.move(train)
            bodies = [section for name in again.plan.trains() for section in again.body(name)]
            self.same(len(bodies), len(set(bodies)))

    def take_back(self, machine):
        deeds = machine.history()
        for many in range(len(deeds) - 1, len(deeds) - 6, -1):
            if many >= 0:
                machine.back()
                again = Machine(machine.plan)
                again.deeds(*deeds[:many])
                self.same((state_of(machine), machine.history()), (state_of(again), deeds[:many]))

    def test_crossings(self):
        one = Train("a", 5, Step("wa.sa.1", [2]), Step("sa.ec.1", [1, 5]), out=2)
        two = Train("b", 5, Step("wb.sb.1", [2]), Step("sb.ed.1", [1, 4]), out=2)
        machine = Machine(Plan(CROSS, one, two))
        machine.deeds(("ask", "a"), ("ask", "b"), ("move", "a"), ("move", "b"), ("ask", "a"))
        self.same(machine.would("b"), ("x", "a"))
        self.same([machine.move("a"), machine.move("a")], [["a"], ["x"]])
        self.same(machine.would("b"), None)


if __name__ == "__main__":
    unittest.main()
