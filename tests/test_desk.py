import random
import unittest

from chances import LINE, PLACE, some_plan
from helpers import ANYTHING, Case
from ringlessday.desk import Desk
from ringlessday.errors import DayError, InvalidNumber, TooMany
from ringlessday.lateness import latest
from ringlessday.led import LedDay
from ringlessday.moments import Moments
from ringlessday.plans import Plan
from ringlessday.safety import Safety
from ringlessday.trains import Step, Train
from test_led import PLAN, SHUTTLE, STUCK
from test_machine import A, B
from test_safety import many_standings

LINES = ["undo", "redo", "made", "choices", "standing", "safe", "row", "orders", "still"]


def said(plan, *lines, **more):
    """The answers of a new desk."""
    desk = Desk(plan, **more)
    return [desk(line) for line in lines]


class LinesTest(Case):
    def test_enter(self):
        self.same(said(PLAN, "enter a", "enter a 5", "enter a 0", "enter a", "enter b 1000000", "enter b"),
                  ["a.0 at 0", "a.1 at 16", "a.2 at 21", "error Finished", "b.0 at 1000028", "b.1 at 1000032"])
        self.same(said(PLAN, "enter x", "enter x 1000001", "enter a 1000001", "enter a 99999999999999999999", "enter b", "enter a",
                       "enter b"),
                  ["error UnknownName", "error UnknownName", "error InvalidNumber", "error InvalidNumber", "b.0 at 0",
                   "error Barred", "b.1 at 4"])
        self.same(said(PLAN, "enter a", "enter b", "enter b", "enter a", "enter a", guarded=False),
                  ["a.0 at 0", "b.0 at 0", "error Refused", "a.1 at 11", "error Refused"])
        self.same(said(SHUTTLE, "enter b", "enter a", "enter b", "enter b"),
                  ["error Lacking", "a.0 at 0", "b.0 at 14", "error Finished"])

    def test_errors_in_their_order(self):
        self.same(said(PLAN, "enter a", "enter a", "enter a", "enter a 1000001", "enter a 1000000", "enter c 1000001"),
                  ["a.0 at 0", "a.1 at 11", "a.2 at 16", "error InvalidNumber", "error Finished", "error UnknownName"])

    def test_undo_and_redo(self):
        self.same(said(PLAN, "undo", "redo", "enter a 3", "enter a", "undo", "undo", "undo", "redo", "made", "redo", "redo", "made"),
                  ["error NothingLeft", "error NothingLeft", "a.0 at 3", "a.1 at 14", "done", "done", "error NothingLeft", "done",
                   "a.0=3", "done", "error NothingLeft", "a.0=3 a.1=14"])

    def test_made_choices_and_standing(self):
        desk = Desk(PLAN)
        self.same([desk(line) for line in ("made", "choices", "standing", "safe")], ["none", "a b", "0 0", "yes"])
        for line in ("enter b", "enter b", "enter b", "enter a"):
            desk(line)
        self.same([desk(line) for line in ("made", "choices", "standing", "safe")],
                  ["b.0=0 b.1=4 b.2=15 a.0=23", "a", "1 3", "yes"])
        for line in ("enter a", "enter a"):
            desk(line)
        self.same([desk(line) for line in ("choices", "standing", "row", "safe")], ["none", "3 3", "none", "yes"])

    def test_row(self):
        self.same(said(PLAN, "row", "enter b", "row", "enter b", "row"),
                  ["a.0 a.1 a.2 b.0 b.1 b.2", "b.0 at 0", "b.1 b.2 a.0 a.1 a.2", "b.1 at 4", "b.2 a.0 a.1 a.2"])

    def test_orders_and_still(self):
        self.same(said(PLAN, "orders", "still", "enter a", "orders", "still"),
                  ["open open open open", "open open open open", "a.0 at 0", "first first open open", "first first first first"])
        self.same(said(PLAN, "enter b", "orders", "still"), ["b.0 at 0", "open open open second", "second second second second"])
        self.same(said(PLAN, "enter a", "enter b", "orders", "still", guarded=False),
                  ["a.0 at 0", "b.0 at 0", "first first open second", "first first lost second"])
        self.same(said(SHUTTLE, "orders", "still"), ["none", "none"])

    def test_least_and_latest(self):
        desk = Desk(PLAN)
        self.same([desk(line) for line in ("least a.0", "least b.2", "latest b.2 1", "latest b.2 36", "spare 10", "least b.2",
                                           "latest b.2 0", "latest b.2 1", "latest b.2 2", "latest b.2 36")],
                  ["0", "38", "38", "38", "done", "38", "38", "48", "58", "98"])
        self.same([desk(line) for line in ("enter a 2", "least a.0", "latest a.0 6", "least b.2", "latest b.2 36", "latest a.1 36")],
                  ["a.0 at 2", "2", "2", "40", "90", "23"])
        self.same([desk(line) for line in ("spare 0", "latest b.2 36", "spare 1000000", "latest a.1 1")],
                  ["done", "40", "done", "1000013"])

    def test_errors_of_least_and_latest(self):
        self.same(said(PLAN, "least a.3", "least c.0", "least a.6", "least a.99999999999999999999", "latest a.3 1", "latest a.3 37",
                       "latest a.0 37", "latest a.0 99999999999999999999", "latest a.0 36"),
                  ["error UnknownEntry"] * 6 + ["error InvalidNumber"] * 2 + ["0"])

    def test_doomed(self):
        desk = Desk(PLAN, guarded=False)
        for line in ("enter a", "enter b"):
            desk(line)
        self.same([desk(line) for line in ("safe", "row", "least a.0", "latest a.0 1", "least c.9", "latest c.9 37", "latest a.0 99",
                                           "least a.x", "latest a.0", "latest a.0 -1", "standing", "choices", "spare 5")],
                  ["no", "doomed", "doomed", "doomed", "doomed", "doomed", "doomed", "unknown", "unknown", "unknown", "1 1", "a",
                   "done"])
        self.same(said(STUCK, "safe", "row", "choices", "orders", "still", "least a.0", "enter a"),
                  ["no", "doomed", "none", "open", "lost", "doomed", "error Barred"])

    def test_spare(self):
        desk = Desk(PLAN)
        self.same([desk("spare 1000000"), desk.spare, desk("spare 1000001"), desk.spare, desk("spare 0"), desk.spare,
                   desk("spare 99999999999999999999"), desk.spare],
                  ["done", 10 ** 6, "error InvalidNumber", 10 ** 6, "done", 0, "error InvalidNumber", 0])

    def test_a_plan_without_trains(self):
        self.same(said(Plan(PLACE), *LINES[2:], "undo", "redo", "enter a", "least a.0", "latest a.0 1"),
                  ["none", "none", "-", "yes", "none", "none", "none", "error NothingLeft", "error NothingLeft",
                   "error UnknownName", "error UnknownEntry", "error UnknownEntry"])

    def test_names_that_are_words_of_the_desk(self):
        plan = Plan(LINE, Train("enter", 5, Step("west.ey.1", [1, 2])), Train("undo", 5, Step("east.wz.1", [1, 2])))
        self.same(said(plan, "enter enter", "enter undo 4", "made", "least undo.0", "undo", "made"),
                  ["enter.0 at 0", "undo.0 at 4", "enter.0=0 undo.0=4", "4", "done", "enter.0=0"])


class UnknownTest(Case):
    def test_unknown_lines(self):
        wrong = ["", " ", "names", "enter", "enter ", "enter a ", "enter  a", " enter a", "enter a  5", "enter a 5 ", "enter a 5 6",
                 "enter A", "enter abcdefg", "enter a1", "enter 5", "enter a b", "enter a 05", "enter a +5", "enter a -5",
                 "enter a 5.", "enter a 5_0", "enter a -0", "enter a 00", "Enter a", "enter a\n", "enter\na", "enter\ta",
                 "enter a.0", "enter a \u0665", "enter a \u00b2", "least", "least ", "least a", "least a.", "least .0", "least a.00",
                 "least a.01", "least a.-1", "least a.0 ", "least a.0 1", "least  a.0", "least A.0", "least a.0.0", "least a 0",
                 "least abcdefg.0", "latest", "latest a.0", "latest a.0 ", "latest a.0 01", "latest a.0 -1", "latest a.0 x",
                 "latest a.0 1 2", "latest 1 a.0", "latest a 1", "latest a.x 1", "latest a.0  1", "spare", "spare ", "spare x",
                 "spare 05", "spare -5", "spare 5 6", "spare  5", "spare a.0", "latest a.0 1\n", "spare 5\n", "spare +5",
                 "most a.0", "most a.0 1", "enter a.0 1", "spare a.0 1", "undo a.0 1", "Least a.0", "Latest a.0 1", "names a"]
        wrong += [form.format(line) for line in LINES for form in ("{} ", " {}", "{} 1", "{} a", "{}\n", "{}s", "{}  ", "\n{}")]
        wrong += [line.upper() for line in LINES] + [line[:-1] for line in LINES]
        desk = Desk(PLAN)
        for line in wrong:
            self.same((line, desk(line)), (line, "unknown"))
        self.same([len(desk), desk.day.made(), desk.spare], [len(wrong), [], 0])

    def test_values_that_are_no_strings(self):
        desk = Desk(PLAN)
        for value in ANYTHING + [["undo"], ("enter", "a"), {"undo": 1}]:
            if not isinstance(value, str):
                self.same([desk.say(value), desk.log()[-1]], ["unknown", (value, "unknown")])


class DeskTest(Case):
    def test_say_and_call(self):
        desk = Desk(PLAN)
        self.same([desk.say("enter a"), desk("enter a"), desk.say(line="made"), desk(line="made")],
                  ["a.0 at 0", "a.1 at 11", "a.0=0 a.1=11", "a.0=0 a.1=11"])

    def test_log_len_truth_and_repr(self):
        desk = Desk(PLAN)
        self.same([desk.log(), len(desk), bool(desk), repr(desk)], [[], 0, True, "Desk(0 lines)"])
        for line in ("enter a", "enter b", None, "names"):
            desk(line)
        self.same([desk.log(), len(desk), bool(desk), repr(desk)],
                  [[("enter a", "a.0 at 0"), ("enter b", "error Barred"), (None, "unknown"), ("names", "unknown")], 4, True,
                   "Desk(4 lines)"])
        desk.say("made")
        self.same(repr(desk), "Desk(5 lines)")
        self.is_new_list(desk.log)

    def test_lists_in_the_log_are_copies(self):
        desk, line, other = Desk(PLAN), ["x", ["y"]], (["z"],)
        desk.say(line)
        desk.say(other)
        line[1].append("spoilt")
        other[0].append("spoilt")
        desk.log()[0][0].append("spoilt")
        desk.log()[1][0][0].append("spoilt")
        self.same(desk.log(), [(["x", ["y"]], "unknown"), ((["z"],), "unknown")])

    def test_spare_by_its_property_and_by_set_spare(self):
        desk = Desk(PLAN)
        self.same([desk.spare, desk.set_spare(7), desk.spare, desk.set_spare(value=0), desk.spare], [0, None, 7, None, 0])
        desk.spare = 10 ** 6
        self.same([desk.spare, desk("latest a.0 1")], [10 ** 6, "1000000"])
        for value in [value for value in ANYTHING if type(value) is not int or not 0 <= value <= 10 ** 6] + [-1, 10 ** 6 + 1]:
            self.refused(InvalidNumber(value), desk.set_spare, value)
            self.refused(InvalidNumber(value), setattr, desk, "spare", value)
            self.same(desk.spare, 10 ** 6)
        self.same(len(desk), 1)

    def test_its_day(self):
        desk = Desk(plan=PLAN, guarded=False)
        self.assertIs(type(desk.day), LedDay)
        self.same([desk.day.guarded, desk.day.plan == PLAN, Desk(PLAN).day.guarded], [False, True, True])
        with self.assertRaises(TypeError):
            Desk(PLAN, False)

    def test_a_day_that_is_led_beside_the_desk(self):
        desk = Desk(PLAN)
        desk.day.enter("a", late=3)
        desk.day.enter_all("a", "a")
        self.same([desk("made"), desk("standing"), desk("least b.0")], ["a.0=3 a.1=14 a.2=19", "3 0", "26"])
        self.same([desk("undo"), desk("made"), desk.day.history()], ["done", "a.0=3", (1, 1)])
        desk.day.redo()
        self.same([desk("enter b 2"), desk.day.moment(("b", 0)), desk("redo"), len(desk)], ["b.0 at 28", 28, "error NothingLeft", 7])

    def test_too_many_standings(self):
        self.refused(TooMany("standings", 4000), Desk, many_standings(3, 3, 3, 3, 3, 3))
        self.refused(TooMany("standings", 4000), Desk, many_standings(3, 3, 3, 3, 3, 3), guarded=False)
        self.same(said(many_standings(4, 4, 4, 3, 3, 1), "standing"), ["0 0 0 0 0 0"])


class ManyPlansTest(Case):
    def test_against_a_led_day(self):
        for seed in range(120):
            chance = random.Random(seed)
            plan = some_plan(chance)
            desk, day = Desk(plan, guarded=seed % 2 == 0), LedDay(plan, guarded=seed % 2 == 0)
            for _ in range(12):
                train, late = chance.choice(plan.trains() or ["x"]), chance.choice([0, 0, 7])
                self.same(desk(f"enter {train} {late}" if late else f"enter {train}"), self.entered(day, train, late))
                self.look_at(desk, day, plan, chance)

    def entered(self, day, train, late):
        try:
            moment = day.enter(train, late=late)
        except (DayError, LookupError) as error:
            return f"error {error.code}"
        return f"{train}.{day.made()[-1][0][1]} at {moment}"

    def look_at(self, desk, day, plan, chance):
        words = {True: "first", False: "second", None: "open", "": "lost"}
        lead = Safety(plan).lead(day.standing)
        self.same([desk(line) for line in LINES[2:]], [
            " ".join(f"{name}.{at}={moment}" for (name, at), moment in day.made()) or "none", " ".join(day.choices()) or "none",
            " ".join(map(str, day.standing)) or "-", "yes" if day.safe_now else "no",
            "doomed" if lead is None else " ".join(f"{name}.{at}" for name, at in lead) or "none",
            " ".join(words[order] for order in day.orders()) or "none", " ".join(words[order] for order in day.still()) or "none"])
        desk.spare = spare = chance.randrange(9)
        late = chance.choice([0, 1, 2, 36])
        for name, at in plan.entries()[:3]:
            told = [desk(f"least {name}.{at}"), desk(f"latest {name}.{at} {late}")]
            if lead is None:
                self.same(told, ["doomed", "doomed"])
            else:
                course, bounds = day.course(), {entry: spare for entry in plan.entries()}
                self.same(told, [str(day.outlook(course)[(name, at)]), str(day.outlook(course, bounds, late=late)[(name, at)])])

    def test_a_day_without_entries_is_as_late_as_its_course(self):
        for seed in range(60):
            plan = some_plan(random.Random(seed))
            desk = Desk(plan)
            if desk.day.safe_now:
                desk.spare = 5
                table = desk.day.course()
                for entry in plan.entries():
                    self.same(desk(f"least {entry[0]}.{entry[1]}"), str(Moments(table).moment(entry)))
                    bounds = {one: 5 for one in plan.entries()}
                    self.same(desk(f"latest {entry[0]}.{entry[1]} 2"), str(latest(table, entry, bounds, late=2)))

    def test_the_names_of_the_example(self):
        self.same(said(Plan(PLACE, A, B), "enter a", "enter b", "choices", "row", "least b.2", "still", "enter x", "names"),
                  ["a.0 at 0", "error Barred", "a", "a.1 a.2 b.0 b.1 b.2", "38", "first first first first", "error UnknownName",
                   "unknown"])


if __name__ == "__main__":
    unittest.main()
