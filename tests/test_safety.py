import random
import unittest
from itertools import product

from chances import LINE, PLACE, SHORT, some_plan
from helpers import ANYTHING, Case
from oracles import PlainStandings
from ringlessday.errors import InvalidStanding, TooMany
from ringlessday.guards import GuardedMachine
from ringlessday.plans import Plan
from ringlessday.safety import Safety, Trap
from ringlessday.standings import size
from ringlessday.trains import Step, Train
from test_machine import A, B, BACK, STAYS

PLAN = Plan(PLACE, A, B)
TURNED = Plan(LINE, STAYS, BACK, turns=[("b", "a", 5)])
STUCK = ([("a", 0), ("a", 1), ("b", 0)], [("a", "f", "b"), ("b", "e", "a")], ["a", "b"])


def many_standings(*steps):
    """A plan of trains that go to the east with so many steps each."""
    east = [Step("west.ey.1", [4, 9]), Step("ey.ez.1", [5]), Step("ez.eo.1", [4]), Step("eo.east.1", [4])]
    return Plan(SHORT, *[Train("abcdef"[at], 5, *east[:many]) for at, many in enumerate(steps)])


class TooManyTest(Case):
    def test_beyond_4000(self):
        self.same(Safety.MOST, 4000)
        # 4 ** 6 is 4096, and 5 * 5 * 5 * 4 * 4 * 3 is 6000.
        self.refused(TooMany("standings", 4000), Safety, many_standings(3, 3, 3, 3, 3, 3))
        self.refused(TooMany("standings", 4000), Safety, many_standings(4, 4, 4, 3, 3, 2))

    def test_just_4000(self):
        # 5 * 5 * 5 * 4 * 4 * 2 is 4000.
        plan = many_standings(4, 4, 4, 3, 3, 1)
        self.same([size(plan), Safety(plan).is_safe((0,) * 6)], [4000, False])


class QuestionsTest(Case):
    def test_the_passing_place(self):
        safety = Safety(plan=PLAN)
        self.same([safety.doomed(), safety.stuck(), safety.bars(), safety.never_sticks],
                  [[(1, 1), (2, 1)], [(2, 1)], [((0, 1), "a"), ((1, 0), "b"), ((2, 0), "b")], False])
        self.same(safety.safe(), [(0, 0), (0, 1), (0, 2), (0, 3), (1, 0), (1, 3), (2, 0), (2, 3), (3, 0), (3, 1), (3, 2),
                                  (3, 3)])
        self.same(safety.reached(), sorted(safety.safe() + safety.doomed()))
        self.assertEqual(safety.plan, PLAN)

    def test_is_safe(self):
        safety = Safety(PLAN)
        self.same([safety.is_safe((0, 0)), safety.is_safe(standing=(1, 1)), safety.is_safe((3, 3))], [True, False, True])

    def test_lead(self):
        safety = Safety(PLAN)
        self.same(safety.lead((0, 0)), [("a", 0), ("a", 1), ("a", 2), ("b", 0), ("b", 1), ("b", 2)])
        self.same(safety.lead((0, 1)), [("b", 1), ("b", 2), ("a", 0), ("a", 1), ("a", 2)])
        self.same([safety.lead(standing=(3, 3)), safety.lead((1, 1)), safety.lead((2, 1))], [[], None, None])

    def test_behind(self):
        safety = Safety(PLAN)
        self.same([safety.behind((1, 1)), safety.behind((3, 3)), safety.behind(standing=(2, 0))],
                  [[(1, 1), (2, 1)], [(3, 3)], [(2, 0), (2, 1), (3, 0), (3, 1), (3, 2), (3, 3)]])
        self.same(safety.behind((0, 0)), safety.reached())

    def test_standings_that_are_none_or_not_reached(self):
        safety = Safety(PLAN)
        for value in ANYTHING + [[0, 0], (0,), (0, 0, 0), (4, 0), (2, 2), (1, 2), (0, False), (True, 0), (-1, 0),
                                 (None, 0), ([0], 0), (10 ** 9, 0), ((0, 0), 0)]:
            for call in (safety.is_safe, safety.lead, safety.behind):
                self.refused(InvalidStanding(value), call, value)
        for value in [value for value in ANYTHING if value != ()]:
            self.refused(InvalidStanding(value), Safety(Plan(PLACE)).is_safe, value)

    def test_a_plan_without_trains(self):
        safety = Safety(Plan(PLACE))
        self.same([safety.reached(), safety.safe(), safety.doomed(), safety.stuck(), safety.bars(), safety.lead(()),
                   safety.behind(()), safety.never_sticks, safety.trap(), safety.is_safe(())],
                  [[()], [()], [], [], [], [], [()], True, None, True])

    def test_bars_ascend_by_the_names_of_the_trains(self):
        safety = Safety(Plan(PLACE, B, A))
        self.same(safety.bars(), [((0, 1), "b"), ((0, 2), "b"), ((1, 0), "a")])
        found = 0
        for seed in range(150):
            bars = Safety(some_plan(random.Random(seed))).bars()
            self.same(bars, sorted(bars))
            found += len({standing for standing, _ in bars}) < len(bars)
        self.assertTrue(found)

    def test_lists_are_new(self):
        safety = Safety(PLAN)
        for call in (safety.reached, safety.safe, safety.doomed, safety.stuck, safety.bars,
                     lambda: safety.lead((0, 0)), lambda: safety.behind((0, 0))):
            self.is_new_list(call)

    def test_by_the_definitions(self):
        for seed in range(120):
            plan = some_plan(random.Random(seed), most_trains=3)
            safety, plain = Safety(plan), PlainStandings(plan)
            reached = plain.onward(plain.zeros)
            behind = {standing: plain.onward(standing) for standing in reached}
            safe = [standing for standing in reached if plain.end in behind[standing]]
            stuck = [standing for standing in reached if behind[standing] == [standing] and standing != plain.end]
            self.same([safety.reached(), safety.safe(), safety.stuck()], [reached, safe, stuck])
            self.same(safety.doomed(), [standing for standing in reached if standing not in safe])
            self.same([safety.behind(standing) for standing in reached], [behind[standing] for standing in reached])
            self.same(safety.never_sticks, safe == reached)
            self.same(safety.bars(), sorted((standing, train) for standing in safe for train in plain.lets(standing)
                                            if plain.after(standing, train) not in safe))
            for standing in product(*[range(most + 2) for most in plain.steps]):
                if standing not in reached:
                    self.refused(InvalidStanding(standing), safety.is_safe, standing)
            for standing in reached:
                self.same(safety.lead(standing), self.lead(plain, safe, standing))
            self.look_at_trap(safety, plain)

    def lead(self, plain, safe, standing):
        if standing not in safe:
            return None
        row = []
        while standing != plain.end:
            train = [name for name in plain.lets(standing) if plain.after(standing, name) in safe][0]
            row.append((train, standing[plain.trains.index(train)]))
            standing = plain.after(standing, train)
        return row

    def look_at_trap(self, safety, plain):
        trap = safety.trap()
        if safety.never_sticks:
            self.assertIsNone(trap)
            return
        self.assertIs(trap.holds(safety.plan), True)
        standing = plain.zeros
        for train, step in trap.row():
            self.assertIn(train, plain.lets(standing))
            self.assertEqual(standing[plain.trains.index(train)], step)
            standing = plain.after(standing, train)
        self.assertIn(standing, safety.stuck())
        self.same([trap.hindrances(), trap.ring()], [plain.hindrances(standing), plain.ring(standing)])


class FactsTest(Case):
    def test_a_guarded_day_never_sticks_and_an_unguarded_one_may(self):
        for seed in range(100):
            chance = random.Random(seed)
            plan = some_plan(chance, most_trains=3)
            safety = Safety(plan)
            standing = (0,) * len(plan)
            if not safety.is_safe(standing):
                continue
            machine = GuardedMachine(plan)
            while machine.choices():
                machine.ask(chance.choice(machine.choices()))
                machine.run_all()
            self.same(machine.is_over, True)


class TrapTest(Case):
    def test_the_trap_of_the_passing_place(self):
        trap = Safety(PLAN).trap()
        self.same([trap.holds(PLAN), trap.hindrances(), trap.ring()], [True, STUCK[1], STUCK[2]])
        self.same(sorted(trap.row()), STUCK[0])
        self.assertIsNone(Safety(TURNED).trap())

    def test_right_values(self):
        self.same(Trap(*STUCK).holds(PLAN), True)
        self.same(Trap(row=tuple(STUCK[0]), hindrances=tuple(STUCK[1]), ring=tuple(STUCK[2])).holds(plan=PLAN), True)
        self.same(Trap([("a", 0), ("b", 0), ("a", 1)], *STUCK[1:]).holds(PLAN), True)

    def test_one_thing_changed(self):
        row, hindrances, ring = STUCK
        for other in ([], row[:2], row + [("a", 2)], [row[1], row[0], row[2]], [("a", False), *row[1:]], row[:2] + [("b", 1)],
                      [("a", 0), ("a", 1), ["b", 0]], [("b", 0), ("b", 1), ("a", 0)], row + [("b", 1)], [*row, None],
                      [("a", 0), ("b", 0)], [("x", 0), *row], [("a", 0), ("a", True), ("b", 0)]):
            self.same(Trap(other, hindrances, ring).holds(PLAN), False)
        for other in ([], hindrances[:1], hindrances[::-1], hindrances * 2, [("a", "e", "b"), hindrances[1]],
                      [["a", "f", "b"], hindrances[1]], [("a", None, "b"), hindrances[1]], [("a", "f", "a"), hindrances[1]],
                      [hindrances[0], ("b", "e", "b")]):
            self.same(Trap(row, other, ring).holds(PLAN), False)
        for other in ([], ["a"], ["b"], ["b", "a"], ["a", "b", "a"], ["a", "x"], ["a", None], [["a"], "b"]):
            self.same(Trap(row, hindrances, other).holds(PLAN), False)

    def test_values_of_other_kinds(self):
        for value in ANYTHING + [{}, STUCK]:
            self.same(Trap(value, *STUCK[1:]).holds(PLAN), False)
            self.same(Trap(STUCK[0], value, STUCK[2]).holds(PLAN), False)
            self.same(Trap(*STUCK[:2], value).holds(PLAN), False)
            trap = Trap(value, value, value)
            self.same([trap.row(), trap.hindrances(), trap.ring()], [value] * 3)
            self.same(trap.holds(Plan(PLACE)), False)

    def test_of_another_plan(self):
        self.same(Trap(*STUCK).holds(Plan(PLACE, B, A)), False)
        self.same(Trap(STUCK[0], STUCK[1][::-1], ["b", "a"]).holds(Plan(PLACE, B, A)), True)
        self.same(Trap(*STUCK).holds(Plan(PLACE, A)), False)

    def test_the_end_and_a_standing_with_entries_that_are_let_are_no_traps(self):
        self.same([Trap([], [], []).holds(Plan(PLACE)), Trap([], [], ["a"]).holds(Plan(PLACE, A))], [False, False])
        row = [("a", 0), ("a", 1), ("a", 2)]
        self.same(Trap(row, [], ["a"]).holds(Plan(PLACE, A)), False)

    def test_a_ring_that_begins_behind_the_first_train(self):
        # The train c waits for a, which is stuck with b.
        c = Train("c", 5, Step("west.sl.1", [1, 2, 3]))
        plan = Plan(PLACE, c, A, B, waits=[("c", 0, "a", 1, 0), ("c", 0, "a", 2, 0)])
        hindrances = [("c", None, "a"), *STUCK[1]]
        self.same(Trap(STUCK[0], hindrances, ["a", "b"]).holds(plan), True)
        for ring in (["c", "a", "b"], ["b", "a"], ["c"]):
            self.same(Trap(STUCK[0], hindrances, ring).holds(plan), False)

    def test_a_train_without_steps_left(self):
        blocks = Train("z", 5, Step("west.ey.1", [1, 2]))
        other = Train("a", 5, Step("west.ey.1", [1, 2]))
        plan = Plan(LINE, other, blocks)
        row, hindrances = [("z", 0)], [("a", "y", "z")]
        self.same(Trap(row, hindrances, ["z"]).holds(plan), True)
        for ring in (["a"], ["a", "z"], [], ["z", "z"]):
            self.same(Trap(row, hindrances, ring).holds(plan), False)
        self.same(Safety(plan).trap().ring() in (["z"], ["a"]), True)

    def test_waits_that_wait_for_each_other(self):
        plan = Plan(PLACE, A, B, waits=[("a", 0, "b", 2, 0), ("b", 0, "a", 2, 0)])
        trap = Safety(plan).trap()
        self.same([trap.row(), trap.hindrances(), trap.ring()], [[], [("a", None, "b"), ("b", None, "a")], ["a", "b"]])
        self.same(trap.holds(plan), True)

    def test_plans_of_too_many_standings(self):
        plan = many_standings(3, 3, 3, 3, 3, 3)
        self.same(Trap([], [], []).holds(plan), False)

    def test_copies(self):
        values = [[("a", 0), ["x"]], [["y"]], ["a"]]
        trap = Trap(*values)
        values[0][1].append("spoilt")
        values[1].clear()
        self.same([trap.row(), trap.hindrances(), trap.ring()], [[("a", 0), ["x"]], [["y"]], ["a"]])
        trap.row()[1].append("spoilt")
        trap.ring().clear()
        trap.hindrances()[0].append("spoilt")
        self.same([trap.row(), trap.hindrances(), trap.ring()], [[("a", 0), ["x"]], [["y"]], ["a"]])
        inside = Trap([(["x"], "a")], None, None)
        inside.row()[0][0].append("spoilt")
        self.same(inside.row(), [(["x"], "a")])
        kept = ("a", ["b"])
        self.assertIs(Trap(kept, 0, 0).row(), kept)


if __name__ == "__main__":
    unittest.main()
