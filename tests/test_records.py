import random
import unittest

from chances import LINE, PLACE, some_plan, some_row
from helpers import ANYTHING, Case
from oracles import PlainStandings, state_of
from ringlessday.errors import DayError, Finished, InvalidRow, InvalidText, Lacking, Refused
from ringlessday.machine import Machine
from ringlessday.plans import Plan
from ringlessday.records import play_record, play_row, record_text
from ringlessday.standings import entry_rows
from ringlessday.trains import Step, Train
from test_machine import A, B, BACK, STAYS

PLAN = Plan(PLACE, A, B)


class RecordTextTest(Case):
    def test_texts(self):
        machine = Machine(PLAN)
        self.same(record_text(machine), "")
        machine.ask("a")
        machine.run("a")
        machine.ask("b")
        self.same(record_text(machine=machine), "ask a\nmove a\nmove a\nmove a\nask b\n")
        machine.back()
        self.same(record_text(machine), "ask a\nmove a\nmove a\nmove a\n")

    def test_there_and_back(self):
        for seed in range(60):
            chance = random.Random(seed)
            plan = some_plan(chance)
            machine = Machine(plan)
            for _ in range(40 if plan.trains() else 0):
                try:
                    machine.deeds((chance.choice(["ask", "move"]), chance.choice(plan.trains())))
                except (DayError, IndexError):
                    pass
            again = play_record(plan, record_text(machine))
            self.assertIs(type(again), Machine)
            self.same([state_of(again), again.history()], [state_of(machine), machine.history()])
            self.same(record_text(again), record_text(machine))


class PlayRecordTest(Case):
    def test_right_texts(self):
        self.same(play_record(PLAN, "").history(), [])
        self.same(play_record(plan=PLAN, text="ask a\nmove a\n").history(), [("ask", "a"), ("move", "a")])
        self.assertEqual(play_record(PLAN, "ask a\n").plan, PLAN)

    def test_no_string(self):
        for value in ANYTHING:
            if not isinstance(value, str):
                self.refused(InvalidText(0), play_record, PLAN, value)

    def test_lines_without_the_form(self):
        for line in ("", " ", "ask", "ask ", " ask a", "ask  a", "ask a ", "ask a a", "Ask a", "ASK a", "run a", "asks a",
                     "move", "back", "ask,a", "a ask", "ask\ta", "ask a\r", "ask a0"):
            for number, ahead in ((1, ""), (3, "ask a\nmove a\n")):
                self.refused(InvalidText(number), play_record, PLAN, f"{ahead}{line}\n")
                self.refused(InvalidText(number), play_record, PLAN, f"{ahead}{line}\nask x\nask")

    def test_lines_whose_deed_raises_an_error(self):
        for number, text in ((1, "ask x\n"), (1, "move x\n"), (1, "move a\n"), (2, "ask a\nask a\n"),
                             (5, "ask a\nmove a\nmove a\nmove a\nmove a\n"), (4, "ask b\nmove b\nask a\nask b\n"),
                             (2, "ask a\nask west\nask b\n")):
            self.refused(InvalidText(number), play_record, PLAN, text)
        turned = Plan(LINE, STAYS, BACK, turns=[("b", "a", 5)])
        self.refused(InvalidText(1), play_record, turned, "ask b\n")
        self.refused(InvalidText(2), play_record, turned, "ask a\nask a\n")

    def test_a_last_line_without_a_line_feed(self):
        self.refused(InvalidText(1), play_record, PLAN, "ask a")
        self.refused(InvalidText(2), play_record, PLAN, "ask a\nmove a")
        self.refused(InvalidText(2), play_record, PLAN, "ask a\n ")
        self.refused(InvalidText(1), play_record, PLAN, "move a\nask a")


class PlayRowTest(Case):
    def test_a_whole_row(self):
        row = [("a", 0), ("a", 1), ("a", 2), ("b", 0), ("b", 1), ("b", 2)]
        machine = play_row(PLAN, row)
        self.same([machine.standing, machine.is_over], [(3, 3), True])
        asks = [("a", 4), ("a", 3), ("a", 3), ("b", 2), ("b", 4), ("b", 4)]
        self.same(machine.history(), [deed for name, many in asks
                                      for deed in [("ask", name)] + [("move", name)] * (many - 1)])

    def test_some_of_the_entries(self):
        self.same(play_row(PLAN, []).history(), [])
        machine = play_row(plan=PLAN, row=(("a", 0), ("b", 0)))
        self.same([machine.standing, machine.passed("a"), machine.passed("b")], [(1, 1), (1, 3), (1, 1)])
        self.same(machine.history(), [("ask", "a")] + [("move", "a")] * 3 + [("ask", "b"), ("move", "b")])

    def test_invalid_rows(self):
        for value in ANYTHING + ["a0", ("a", 0), [("a", 0), ("a", 0)], [("a", 1)], [("a", 0), ("a", 2), ("a", 1)],
                                 [("x", 0)], [("a", False)], [("b", 0), ["a", 0]], [("a", 0), ("a", True)],
                                 [("a", 0), None], {("a", 0): 1}, [("a", 0, 0)], [("a", 0), ("a", 1), ("a", 2), ("a", 3)],
                                 [("a", 0), ("a", 1), ("a", 3)], [("a", -1)]]:
            if value not in ([], ()):
                self.refused(InvalidRow(value), play_row, PLAN, value)
        # A row of the right form fails later than one of the wrong form.
        self.refused(InvalidRow([("a", 0), ("b", 0), ("b", 1), ("c", 0)]), play_row, PLAN,
                     [("a", 0), ("b", 0), ("b", 1), ("c", 0)])

    def test_the_errors_of_ask(self):
        self.refused(Refused("b", "u", "a"), play_row, PLAN, [("a", 0), ("b", 0), ("b", 1)])
        turned = Plan(LINE, STAYS, BACK, turns=[("b", "a", 5)])
        self.refused(Lacking("b", "a"), play_row, turned, [("b", 0), ("a", 0)])
        self.same(play_row(turned, [("a", 0), ("b", 0)]).is_over, True)
        waits = Plan(PLACE, A, B, waits=[("a", 0, "b", 2, 0)])
        self.refused(Lacking("a", "b"), play_row, waits, [("b", 0), ("a", 0), ("b", 1)])

    def test_the_rows_that_are_played(self):
        for seed in range(60):
            chance = random.Random(seed)
            plan = some_plan(chance, most_trains=3, most_steps=2)
            plain = PlainStandings(plan)
            rows = list(entry_rows(plan, plain.zeros))
            for row in rows[:20]:
                self.same(play_row(plan, row).standing, plain.end)
            for _ in range(10):
                row = some_row(chance, plan)
                if row in rows:
                    self.assertTrue(play_row(plan, row).is_over)
                else:
                    self.assertRaises((Refused, Lacking), play_row, plan, row)


if __name__ == "__main__":
    unittest.main()
