"""The questions that take any value, asked with right values of which some parts are of other kinds."""

import unittest

from chances import LINE, PLACE
from helpers import ANYTHING, PASSING_PLACE, Case
from ringlessday.alike import alike_at, parting
from ringlessday.buffers import buffer, needless, reach
from ringlessday.desk import Desk
from ringlessday.errors import DayError, Missing, NothingLeft
from ringlessday.fits import Unfit, fit, limits
from ringlessday.guards import GuardedMachine
from ringlessday.lateness import latest, worst
from ringlessday.led import LedDay
from ringlessday.machine import Machine
from ringlessday.moments import Moments, longest
from ringlessday.names import is_end, is_entry, is_name, is_number
from ringlessday.orders import Table, is_row
from ringlessday.pages import plan_page, read_plan
from ringlessday.papers import Paper, paper
from ringlessday.plans import Plan
from ringlessday.profiles import profile
from ringlessday.ratios import Ratio
from ringlessday.records import play_record, play_row
from ringlessday.rota import Rota
from ringlessday.rounds import RoundWeb
from ringlessday.safety import Safety, Trap
from ringlessday.sections import Crossing, Plain, Point
from ringlessday.sightings import Sightings
from ringlessday.standings import after, entry_rows, hindrance, lets, locked
from ringlessday.tables import forced
from ringlessday.track import Track
from ringlessday.tracktext import read_track
from ringlessday.trains import Step, Train
from ringlessday.walks import begin, outward, walks
from ringlessday.webs import Web
from test_machine import BACK, STAYS
from test_moments import PLAN, RING, TABLE

# Right at no place of any value that is asked about here.
ODD = ["no such", "%", [["x"]], (("x",),), [None], (None, "x"), [["x"], None], [(1, 2), [3]]]
FIRST, LAST = ("a", 0), ("b", 2)
ROW = PLAN.entries()
DELAYS = {FIRST: 3, ("b", 1): 5, LAST: 7}
TRAP = Safety(PLAN).trap()
WISHES = [("latest", LAST, 45), ("seen", FIRST, 3), ("apart", FIRST, LAST, 40)]
ROUND = RoundWeb(PLAN, [0, 0, 0, 0])
JOURNEYS = [("one", "p", 0, "q", 10), ("two", "q", 15, "p", 20), ("three", "p", 25, "q", 40)]
ROTA = Rota(JOURNEYS)
PASSES = Train("c", 5, Step("east.wz.1", [1, 2]), Step("wz.wy.1", [1]), Step("wy.west.1", [3]))
UNKNOWN_NAME, UNKNOWN_END, UNKNOWN_ENTRY = ["UnknownName"], ["UnknownEnd"], ["UnknownEntry"]
NO_NAME, NO_NUMBER, NO_DELAYS, NO_TEXT = ["InvalidName"], ["InvalidNumber"], ["InvalidDelays"], ["InvalidText"]


def bare_track():
    """Two sections without joints and marks."""
    track = Track()
    track.put(Plain("x", 5))
    track.put(Plain("y", 5))
    return track


def joined_track():
    """Two sections with a joint, without marks."""
    track = bare_track()
    track.tie(("x", "b"), ("y", "a"))
    return track


def begun(made):
    """A machine in which a has passed all sections of its first step but the last one."""
    machine = made(PLAN)
    machine.deeds(("ask", "a"), ("move", "a"), ("move", "a"))
    return machine


def calls_of(machine):
    """The calls of a machine that take a train."""
    return [machine.ask, machine.would, machine.move, machine.run, machine.body, machine.passed,
            lambda value: machine.has_arrived(value, 0)]


# In all tables below a row is (question, value that is right, what comes of a value that is wrong in a part: a list of
# answers and of codes of errors).
NAMES = [
    (is_name, "a", [False]), (lambda value: is_number(value, 0, 9), 5, [False]), (is_end, ("x", "left"), [False]),
    (is_entry, ("a", 5), [False]),
]
TRACKS = [
    (lambda value: Plain(value, 5).text(), "a", NO_NAME), (lambda value: Point("a", value).text(), 5, NO_NUMBER),
    (Plain("a", 5).ways, "a", [[]]), (Crossing("a", 5).ways, "c", [[]]),
    (lambda value: Track().put(value), Plain("a", 5), ["InvalidSection"]),
    (lambda value: bare_track().tie(value, ("y", "a")), ("x", "a"), UNKNOWN_END),
    (lambda value: bare_track().tie(("y", "a"), value), ("x", "a"), UNKNOWN_END),
    (lambda value: bare_track().border(value, ("x", "a")), "m", NO_NAME),
    (lambda value: bare_track().border("m", value), ("x", "a"), UNKNOWN_END),
    (lambda value: joined_track().signal(value, ("x", "b")), "m", NO_NAME),
    (lambda value: joined_track().signal("m", value), ("x", "b"), UNKNOWN_END),
    (lambda value: joined_track().untie(value), ("x", "b"), UNKNOWN_END),
    (lambda value: bare_track().drop(value), "x", UNKNOWN_NAME),
    (lambda value: PLACE.track().drop(value), "m", UNKNOWN_NAME),
    (bare_track().section, "x", UNKNOWN_NAME), (PLACE.track().mark, "m", UNKNOWN_NAME),
    (joined_track().beyond, ("x", "b"), UNKNOWN_END), (PLACE.track().mark_at, ("w", "a"), UNKNOWN_END),
    (lambda value: value in bare_track(), "x", [False]), (read_track, PASSING_PLACE, NO_TEXT),
    (lambda value: begin(PLACE.track(), value), "m", UNKNOWN_NAME),
    (lambda value: outward(PLACE.track(), value), ("p", "right"), UNKNOWN_END),
    (lambda value: list(walks(PLACE.track(), value)), "m", UNKNOWN_NAME),
]
LAYOUTS = [
    (PLACE.route_of("west.su.1").askers, "q", [[]]), (PLACE.route_of, "m.east.1", UNKNOWN_NAME),
    (PLACE.routes_from, "m", UNKNOWN_NAME), (PLACE.is_point, "p", [False]),
    (lambda value: PLACE.disagreements(value, "m.east.1"), "m.east.1", UNKNOWN_NAME),
    (lambda value: PLACE.clash("m.east.1", value), "m.east.1", UNKNOWN_NAME),
    (lambda value: value in PLACE, "m.east.1", [False]),
]
PLANS = [
    (lambda value: Step("west.s.1", value).times(), [1, 5, 9], ["InvalidTimes"]),
    (lambda value: Step("west.s.1", [1], stop=value).stop, 5, NO_NUMBER),
    (lambda value: Step("west.s.1", [1], public=value).public, 5, NO_NUMBER),
    (lambda value: len(Train(value, 5, Step("s", [1]))), "a", NO_NAME),
    (lambda value: len(Train("a", value, Step("s", [1]))), 5, NO_NUMBER),
    (lambda value: len(Train("a", 5, Step("s", [1]), value)), Step("s", [1]), ["InvalidStep"]),
    (lambda value: len(Train("a", 5, Step("s", [1]), out=value)), 5, NO_NUMBER),
    (lambda value: STAYS[value], 0, UNKNOWN_ENTRY),
    (lambda value: Plan(LINE, STAYS, BACK, turns=value).turns(), [("b", "a", 5)], ["InvalidTurn"]),
    (lambda value: Plan(LINE, STAYS, PASSES, waits=value).waits(), [("c", 1, "a", 0, 9), ("a", 0, "c", 2, 0)],
     ["InvalidWait"]),
    (PLAN.train_of, "a", UNKNOWN_NAME), (PLAN.step_of, FIRST, UNKNOWN_ENTRY), (PLAN.route_of, FIRST, UNKNOWN_ENTRY),
    (PLAN.demand_of, FIRST, UNKNOWN_ENTRY), (PLAN.place_of, FIRST, UNKNOWN_ENTRY),
    (lambda value: PLAN.clear_of(value, "w"), FIRST, UNKNOWN_ENTRY),
    (lambda value: PLAN.clear_of(FIRST, value), "w", UNKNOWN_NAME), (PLAN.made_of, "a", UNKNOWN_NAME),
    (PLAN.made_into, "a", UNKNOWN_NAME), (PLAN.chain, "a", UNKNOWN_NAME), (lambda value: value in PLAN, "a", [False]),
]
MACHINES = [
    *[(lambda value, made=made, at=at: calls_of(begun(made))[at](value), "a", UNKNOWN_NAME)
      for made in (Machine, GuardedMachine) for at in range(7)],
    *[(lambda value, made=made: begun(made).deeds(value), deed, ["InvalidDeed", "UnknownName"])
      for made in (Machine, GuardedMachine) for deed in (("ask", "a"), ("move", "a"))],
    (lambda value: play_row(PLAN, [FIRST]).has_arrived("a", value), 0, [False]),
    (Machine(PLAN).keeper, "w", UNKNOWN_NAME), (Machine(PLAN).guards, "w", UNKNOWN_NAME),
    (Machine(PLAN).position, "w", UNKNOWN_NAME),
    (lambda value: play_record(PLAN, value).history(), "ask a\nmove a\n", NO_TEXT),
    (lambda value: play_row(PLAN, value).standing, ROW, ["InvalidRow"]),
]
STANDINGS = [
    (lambda value: lets(PLAN, value), (1, 0), ["InvalidStanding"]),
    (lambda value: after(PLAN, value, "a"), (1, 0), ["InvalidStanding"]),
    (lambda value: after(PLAN, (1, 0), value), "a", UNKNOWN_NAME),
    (lambda value: hindrance(PLAN, value, "a"), (2, 1), ["InvalidStanding"]),
    (lambda value: hindrance(PLAN, (2, 1), value), "a", UNKNOWN_NAME),
    (lambda value: locked(PLAN, value), (2, 1), ["InvalidStanding"]),
    (lambda value: list(entry_rows(PLAN, value)), (2, 0), ["InvalidStanding"]),
    (Safety(PLAN).is_safe, (1, 0), ["InvalidStanding"]), (Safety(PLAN).lead, (1, 0), ["InvalidStanding"]),
    (Safety(PLAN).behind, (1, 0), ["InvalidStanding"]),
    (lambda value: Trap(value, TRAP.hindrances(), TRAP.ring()).holds(PLAN), TRAP.row(), [False]),
    (lambda value: Trap(TRAP.row(), value, TRAP.ring()).holds(PLAN), TRAP.hindrances(), [False]),
    (lambda value: Trap(TRAP.row(), TRAP.hindrances(), value).holds(PLAN), TRAP.ring(), [False]),
]
ORDERS = [
    (lambda value: is_row(PLAN, value), ROW, [False]),
    (lambda value: Table(PLAN, value).firsts(), [True] * 4, ["InvalidTable"]),
    (lambda value: Table.of_row(PLAN, value).firsts(), ROW, ["InvalidRow"]), (TABLE.turned, 3, NO_NUMBER),
    (lambda value: TABLE.is_ahead(value, ("b", 1)), FIRST, [None]),
    (lambda value: TABLE.is_ahead(("b", 1), value), FIRST, [None]),
    (TABLE.first_of, (FIRST, ("b", 1)), UNKNOWN_ENTRY), (Web(TABLE).into, FIRST, UNKNOWN_ENTRY),
    (Web(TABLE).out_of, FIRST, UNKNOWN_ENTRY), (Web(RING).is_ring, Web(RING).ring(), [False]),
    (lambda value: forced(PLAN, value), [None, None, True, None], ["InvalidTable"]),
]
MOMENTS = [
    (lambda value: Moments(TABLE, value).moments(), DELAYS, NO_DELAYS), (Moments(TABLE).moment, LAST, UNKNOWN_ENTRY),
    (Moments(TABLE).way, LAST, UNKNOWN_ENTRY), (Moments(TABLE).slack, Web(TABLE).ties()[0], UNKNOWN_ENTRY),
    (lambda value: longest(TABLE, value, LAST), FIRST, UNKNOWN_ENTRY),
    (lambda value: longest(TABLE, FIRST, value), LAST, UNKNOWN_ENTRY),
    *[(lambda value: limits(TABLE, value), wish, ["InvalidWish"]) for wish in WISHES],
    *[(lambda value: bool(fit(TABLE, *WISHES, value)), wish, ["InvalidWish"]) for wish in WISHES],
    (fit(TABLE, *WISHES).least, LAST, UNKNOWN_ENTRY), (fit(TABLE, *WISHES).greatest, LAST, UNKNOWN_ENTRY),
    (lambda value: Unfit(TABLE, [("latest", LAST, 3)], value).holds(), fit(TABLE, ("latest", LAST, 3)).ring(), [False]),
]
LATENESS = [
    (lambda value: latest(TABLE, value, DELAYS), LAST, UNKNOWN_ENTRY),
    (lambda value: latest(TABLE, LAST, value), DELAYS, NO_DELAYS),
    (lambda value: latest(TABLE, LAST, DELAYS, late=value), 2, NO_NUMBER),
    (lambda value: latest(TABLE, LAST, DELAYS, of=value), "trains", NO_NUMBER),
    (lambda value: worst(TABLE, value, DELAYS), LAST, UNKNOWN_ENTRY),
    (lambda value: worst(TABLE, LAST, value), DELAYS, NO_DELAYS),
    (lambda value: worst(TABLE, LAST, DELAYS, late=value), 2, NO_NUMBER),
    (lambda value: worst(TABLE, LAST, DELAYS, of=value), "trains", NO_NUMBER),
    (lambda value: Paper(TABLE, DELAYS, value).holds(), paper(TABLE, DELAYS, late=2).numbers(), [False]),
    (lambda value: paper(TABLE, DELAYS).number(value, 1), LAST, [None]),
    (lambda value: paper(TABLE, DELAYS).number(LAST, value), 1, [None]),
    (lambda value: paper(TABLE, value).numbers(), DELAYS, NO_DELAYS),
    (lambda value: paper(TABLE, DELAYS, late=value).numbers(), 2, NO_NUMBER),
    (lambda value: buffer(TABLE, value, LAST), FIRST, UNKNOWN_ENTRY),
    (lambda value: buffer(TABLE, FIRST, value), LAST, UNKNOWN_ENTRY),
    (lambda value: reach(TABLE, value), FIRST, UNKNOWN_ENTRY),
    (lambda value: needless(TABLE, value, LAST), DELAYS, NO_DELAYS),
    (lambda value: needless(TABLE, DELAYS, value), LAST, UNKNOWN_ENTRY),
    (lambda value: profile(TABLE, value), LAST, UNKNOWN_ENTRY),
    (lambda value: alike_at(TABLE, TABLE, value), LAST, UNKNOWN_ENTRY),
    (lambda value: parting(TABLE, TABLE, value), LAST, UNKNOWN_ENTRY),
    (lambda value: Sightings(TABLE, value).agrees, {FIRST: 3, LAST: 50}, NO_DELAYS),
    (Sightings(TABLE, {}).range_of, LAST, UNKNOWN_ENTRY), (Sightings(TABLE, {}).blamed, LAST, UNKNOWN_ENTRY),
]
ROUNDS = [
    (Ratio.read, "-7/2", NO_TEXT), (lambda value: Ratio(3) == value, 3, [False]),
    (lambda value: RoundWeb(PLAN, value).heights(), [0, -1, 2, 6], ["InvalidHeights"]),
    (ROUND.fits, Ratio(99, 2), ["InvalidPeriod"]), (ROUND.moments, 99, ["InvalidPeriod"]),
    (ROUND.ring_above, 9, ["InvalidPeriod"]),
    (ROUND.is_ring, ROUND.critical(), [False]),
    (lambda value: Rota(value).journeys(), JOURNEYS, ["InvalidJourney"]),
    (lambda value: Rota(JOURNEYS, value).fewest, 5, NO_NUMBER),
    (lambda value: ROTA.can_follow(value, "one"), "two", UNKNOWN_NAME),
    (lambda value: ROTA.can_follow("two", value), "one", UNKNOWN_NAME), (ROTA.is_cover, (["one", "two"], ["three"]), [False]),
]
LED_DAYS = [
    (lambda value: LedDay(PLAN).enter(value), "a", UNKNOWN_NAME),
    (lambda value: LedDay(PLAN).enter("a", late=value), 5, NO_NUMBER),
    (lambda value: LedDay(PLAN).enter_all("a", value), "a", UNKNOWN_NAME),
    (lambda value: LedDay(PLAN).preview("a", value), "a", UNKNOWN_NAME),
    (LedDay(PLAN).moment, LAST, UNKNOWN_ENTRY), (LedDay(PLAN).goes_on, TABLE, [False]),
    (LedDay(PLAN).outlook, TABLE, ["InvalidTable"]),
    (lambda value: LedDay(PLAN).outlook(TABLE, value), DELAYS, NO_DELAYS),
    (lambda value: LedDay(PLAN).outlook(TABLE, DELAYS, late=value), 2, NO_NUMBER),
    (lambda value: plan_page(read_plan(value)), plan_page(PLAN), NO_TEXT), (Desk(PLAN).set_spare, 5, NO_NUMBER),
    (Desk(PLAN).say, "least a.0", ["unknown"]), (Desk(PLAN), "standing", ["unknown"]),
]
TABLES = [NAMES, TRACKS, LAYOUTS, PLANS, MACHINES, STANDINGS, ORDERS, MOMENTS, LATENESS, ROUNDS, LED_DAYS]


def outcome(question, value):
    """What a question answers, or the code of the error of the program that it raises."""
    try:
        return question(value)
    except (DayError, Missing, NothingLeft) as error:
        return error.code


def with_part(value, at, part):
    """A list or a tuple with another part at a place."""
    return type(value)([*value[:at], part, *value[at + 1:]])


def is_key(value):
    try:
        return hash(value) is not None
    except TypeError:
        return False


def changed_dicts(value, change):
    """The dicts, in the same order of keys, in which one key or one value of a dict is changed."""
    found = []
    for key in value:
        found.extend([{one: other if one == key else value[one] for one in value} for other in change(value[key])])
        found.extend([{other if one == key else one: value[one] for one in value}
                      for other in change(key) if is_key(other)])
    return found


def spoilt(value, odd):
    """An odd value, and all that comes of a value if it stands in the place of some of its parts, or beside them."""
    found = [odd]
    if isinstance(value, (list, tuple)):
        for at, part in enumerate(value):
            found.extend([with_part(value, at, other) for other in spoilt(part, odd)])
        found.extend([type(value)(parts) for parts in ([odd] * len(value), [odd, *value], [*value, odd])])
    if isinstance(value, dict):
        found.extend(changed_dicts(value, lambda part: spoilt(part, odd)))
        found.append({key: odd for key in value})
        found.extend([{**value, odd: part} for part in list(value.values())[:1] if is_key(odd)])
    return found


def recast(value, old, new):
    """All that comes of a value if one list in it becomes a tuple, or the other way round."""
    found = [new(value)] if isinstance(value, old) else []
    if isinstance(value, (list, tuple)):
        for at, part in enumerate(value):
            found.extend([with_part(value, at, other) for other in recast(part, old, new)])
    if isinstance(value, dict):
        found.extend(changed_dicts(value, lambda part: recast(part, old, new)))
    return found


class AnyValueTest(Case):
    def for_each_question(self, check):
        for rows in TABLES:
            for at, (question, right, refusals) in enumerate(rows):
                with self.subTest(right=right, refusals=refusals, at=at):
                    check(question, right, refusals)

    def is_refused(self, question, value, refusals):
        self.assertIn(repr(outcome(question, value)), [repr(refusal) for refusal in refusals], repr(value))

    def test_right_values(self):
        def check(question, right, refusals):
            self.assertNotIn(repr(outcome(question, right)), [repr(refusal) for refusal in refusals])
        self.for_each_question(check)

    def test_parts_that_are_right_nowhere(self):
        def check(question, right, refusals):
            for odd in ODD:
                for value in spoilt(right, odd):
                    self.is_refused(question, value, refusals)
        self.for_each_question(check)

    def test_parts_of_all_kinds(self):
        # Some of these are right; a question that asks too much of a part raises an error of Python's own.
        def check(question, right, refusals):
            for odd in ANYTHING:
                for value in spoilt(right, odd):
                    found = outcome(question, value)
                    if refusals == [False]:
                        self.assertIs(type(found), bool, repr(value))
        self.for_each_question(check)

    def test_lists_are_no_tuples(self):
        def check(question, right, refusals):
            for value in recast(right, tuple, list):
                self.is_refused(question, value, refusals)
        self.for_each_question(check)

    def test_tuples_for_lists(self):
        def check(question, right, _):
            for value in recast(right, list, tuple):
                self.same(outcome(question, value), outcome(question, right))
        self.for_each_question(check)


if __name__ == "__main__":
    unittest.main()
