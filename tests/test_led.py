import random
import unittest

from chances import LINE, PLACE, some_plan
from helpers import ANYTHING, Case
from oracles import PlainStandings, PlainWeb, all_delays, disagreements, late_ones, table_pairs
from ringlessday.errors import (Barred, DayError, Doomed, Finished, InvalidDelays, InvalidNumber, InvalidTable, Lacking,
                                NothingLeft, Refused, TooMany, UnknownEntry, UnknownName)
from ringlessday.led import LedDay
from ringlessday.moments import Moments
from ringlessday.orders import Table
from ringlessday.plans import Plan
from ringlessday.records import play_row
from ringlessday.safety import Safety
from ringlessday.standings import after, entry_rows
from ringlessday.trains import Step, Train
from ringlessday.webs import Web
from test_lateness import NO_COUNTS, NO_DELAYS, NO_ENTRIES
from test_machine import A, B, BACK, STAYS
from test_moments import NONE
from test_safety import many_standings

PLAN = Plan(PLACE, A, B)
ENTRIES = A0, A1, A2, B0, B1, B2 = PLAN.entries()
FIRST = Table(PLAN, [True] * 4)
SHUTTLE = Plan(LINE, STAYS, BACK, turns=[("b", "a", 5)])
# Two trains that come to stay at one place, so that no day ends.
STUCK = Plan(LINE, Train("a", 5, Step("west.ey.1", [1, 2])), Train("b", 5, Step("west.ey.1", [1, 2])))


def day_of(plan, trains="", guarded=True):
    day = LedDay(plan, guarded=guarded)
    for train in trains:
        day.enter(train)
    return day


def state_of(day):
    """All that a day tells of itself."""
    try:
        course = day.course().firsts()
    except Doomed:
        course = None
    return [day.made(), [day.moment(entry) for entry in day.plan.entries()], day.orders(), day.still(), day.choices(),
            day.standing, day.safe_now, day.is_over, day.history(), course, repr(day)]


def plain_moment(plan, made, entry):
    """The moment of an entry behind those that are made, a dict, by the definition."""
    ahead = [one for one in plan.entries() if one in made]
    sums = [made[tie[0]] + tie[2] for tie in PlainWeb(Table(plan, [True] * len(table_pairs(plan)))).ties
            if tie[1] == entry and tie[3] != "clash"]
    for one in ahead:
        if tuple(sorted((one, entry), key=plan.entries().index)) in table_pairs(plan):
            for element in disagreements(plan.demand_of(one), plan.demand_of(entry)):
                train, step, time = plan.clear_of(one, element)
                sums.append(made[(train, step)] + time)
    return max([plan.step_of(entry).base, *sums])


def rows_have(plan, standing, one, other):
    """Whether some row from a standing to the end has one entry ahead of another one that is not made either."""
    return any(row.index(one) < row.index(other) for row in PlainStandings(plan).rows(standing))


def small_plan(seed):
    """A plan whose rows can be gone through."""
    plan = some_plan(random.Random(seed), most_trains=3, most_steps=2)
    return plan if len(plan.entries()) <= 6 else Plan(PLACE)


class EnterTest(Case):
    def test_the_passing_place(self):
        day = LedDay(PLAN)
        self.same([day.enter("a"), day.enter("a"), day.enter("a"), day.enter("b"), day.enter("b"), day.enter("b")],
                  [0, 11, 16, 23, 27, 38])
        self.same(day.made(), list(zip(ENTRIES, [0, 11, 16, 23, 27, 38])))
        self.same([day.is_over, day.standing, day.choices(), day.safe_now], [True, (3, 3), [], True])

    def test_delays(self):
        day = LedDay(PLAN)
        self.same([day.enter("a", late=5), day.enter("a", late=0), day.enter(train="a", late=10 ** 6), day.enter("b")],
                  [5, 16, 21 + 10 ** 6, 28 + 10 ** 6])
        self.same(day.moment(A2), 21 + 10 ** 6)

    def test_turns_waits_and_public_moments(self):
        day = day_of(SHUTTLE, "ab")
        self.same(day.made(), [(("a", 0), 0), (("b", 0), 14)])
        late = Train("a", 15, Step("west.su.1", [4, 5, 11], public=7), Step("su.m.1", [1, 5]))
        day = LedDay(Plan(PLACE, late, Train("b", 15, Step("east.n.1", [4]), Step("n.tl.1", [4, 5, 11]), Step("tl.west.1", [1, 5])),
                          waits=[("a", 0, "b", 2, 100)]))
        self.same([day.enter("b"), day.enter("b"), day.enter("b", late=3), day.enter("a")], [0, 4, 15 + 3, 18 + 5 + 100])

    def test_errors_in_their_order(self):
        day = day_of(Plan(PLACE, A, B, waits=[("b", 1, "a", 1, 0)]), "aaabbb")
        for value in ANYTHING + ["c", "A", ("a", 0)]:
            if value != "a":
                self.refused(UnknownName(value), day.enter, value, late=-1)
        for value in [value for value in ANYTHING if type(value) is not int or not 0 <= value <= 10 ** 6] + [-1, 10 ** 6 + 1]:
            self.refused(InvalidNumber(value), day.enter, "a", late=value)
        self.refused(Finished("a"), day.enter, "a", late=10 ** 6)
        self.refused(Finished("a"), day.enter, "a", late=0)

    def test_lacking_ahead_of_refused(self):
        plan = Plan(PLACE, A, B, waits=[("b", 1, "a", 1, 0)])
        day = day_of(plan, "ab", guarded=False)
        # b.1 lacks a, and u is held against it, too.
        self.refused(Lacking("b", "a"), day.enter, "b")
        day = day_of(PLAN, "ab", guarded=False)
        self.refused(Refused("b", "u", "a"), day.enter, "b")
        self.refused(Lacking("b", "a"), LedDay(SHUTTLE).enter, "b")

    def test_barred(self):
        self.refused(Barred("b", 0), day_of(PLAN, "aa").enter, "b")
        self.refused(Barred("b", 0), day_of(PLAN, "a").enter, "b", late=10 ** 6)
        self.refused(Barred("a", 0), day_of(PLAN, "b").enter, train="a")
        self.same(day_of(PLAN, "aa", guarded=False).enter("b"), 0)

    def test_a_refused_entry_changes_nothing(self):
        day = day_of(PLAN, "aa")
        day.undo()
        kept = state_of(day)
        for train, late in (("b", 0), ("c", 0), ("a", -1), (None, 0)):
            with self.assertRaises((DayError, UnknownName)):
                day.enter(train, late=late)
            self.same(state_of(day), kept)
        self.same(day.redo(), None)

    def test_late_by_name_alone(self):
        with self.assertRaises(TypeError):
            LedDay(PLAN).enter("a", 5)

    def test_by_the_definitions(self):
        told = {"Lacking": 0, "Refused": 0, "Barred": 0, "Finished": 0}
        for seed in range(250):
            chance = random.Random(seed)
            plan = some_plan(chance)
            self.lead(chance, plan, LedDay(plan, guarded=seed % 2 == 0), told)
        self.assertTrue(min(told.values()) > 40, told)

    def lead(self, chance, plan, day, told):
        """Asks for entries at random, with delays, and compares with the definitions."""
        plain = PlainStandings(plan)
        made, standing = {}, plain.zeros
        for _ in range(3 * len(plan.entries())):
            train, late = chance.choice(plan.trains()), chance.choice([0, 0, chance.randrange(30)])
            error = self.error_of(plan, plain, standing, train, day.guarded)
            if error is not None:
                self.refused(error, day.enter, train, late=late)
                self.assertNotIn(train, day.choices())
                told[error.code] += 1
                continue
            self.assertIn(train, day.choices())
            entry = (train, standing[plan.trains().index(train)])
            made[entry] = plain_moment(plan, made, entry) + late
            self.same(day.enter(train, late=late), made[entry])
            standing = plain.after(standing, train)
            self.same([day.standing, day.made(), day.is_over], [standing, list(made.items()), standing == plain.end])
            self.same([day.moment(entry) for entry in plan.entries()], [made.get(entry) for entry in plan.entries()])

    def error_of(self, plan, plain, standing, train, guarded):
        if standing[plan.trains().index(train)] == len(plan.train_of(train)):
            return Finished(train)
        hindrance = plain.hindrance(standing, train)
        if hindrance is not None:
            return Lacking(train, hindrance[2]) if hindrance[1] is None else Refused(*hindrance)
        if guarded and plain.end not in plain.onward(plain.after(standing, train)):
            return Barred(train, standing[plan.trains().index(train)])
        return None


class AllTest(Case):
    def test_one_step(self):
        day = LedDay(PLAN)
        self.same([day.enter_all("a", "a", "a", "b"), day.history(), day.standing], [[0, 11, 16, 23], (1, 0), (3, 1)])
        day.undo()
        self.same([day.made(), day.history()], [[], (0, 1)])

    def test_all_or_none(self):
        day = day_of(PLAN, "a", guarded=False)
        kept = state_of(day)
        for trains, error in ((("a", "b", "b"), Refused("b", "e", "a")), (("a", "c"), UnknownName("c")),
                              (("a", "a", "a"), Finished("a")), ((None, "a"), UnknownName(None)),
                              (("b", "b"), Refused("b", "u", "a"))):
            for call in (day.enter_all, day.preview):
                self.refused(error, call, *trains)
                self.same(state_of(day), kept)
        self.refused(Barred("b", 0), LedDay(PLAN).enter_all, "a", "b", "c")
        self.refused(Lacking("b", "a"), LedDay(SHUTTLE).enter_all, "b", "a")

    def test_without_trains_no_step(self):
        day = day_of(PLAN, "aa")
        day.undo()
        kept = state_of(day)
        self.same([day.enter_all(), day.preview(), state_of(day), day.history()], [[], [], kept, (1, 1)])

    def test_preview_changes_nothing(self):
        day = day_of(PLAN, "a")
        day.enter("a", late=4)
        day.undo()
        kept = state_of(day)
        self.same([day.preview("a"), day.preview("a", "a", "b", "b", "b"), state_of(day)],
                  [[11], [11, 16, 23, 27, 38], kept])

    def test_as_one_by_one(self):
        for seed in range(80):
            chance = random.Random(seed)
            plan = some_plan(chance)
            if not plan.trains():
                continue
            day, other = LedDay(plan), LedDay(plan)
            for _ in range(5):
                trains = [chance.choice(plan.trains()) for _ in range(chance.randrange(4))]
                twin = other.twin()
                try:
                    moments = [twin.enter(train) for train in trains]
                except DayError as raised:
                    self.refused(raised, day.enter_all, *trains)
                    self.refused(raised, day.preview, *trains)
                else:
                    other = twin
                    self.same([day.preview(*trains), day.enter_all(*trains)], [moments, moments])
                self.same(day.made(), other.made())


class AnswersTest(Case):
    def test_made_and_moment(self):
        day = day_of(PLAN, "aa")
        self.same([day.made(), day.moment(A1), day.moment(A2), day.moment(entry=A0)], [[(A0, 0), (A1, 11)], 11, None, 0])
        self.is_new_list(day.made)
        for value in NO_ENTRIES:
            self.refused(UnknownEntry(value), day.moment, value)
        self.refused(UnknownEntry(A0), LedDay(NONE.plan).moment, A0)

    def test_orders(self):
        day = LedDay(PLAN, guarded=False)
        self.same(day.orders(), [None] * 4)
        day.enter("a")
        self.same(day.orders(), [True, True, None, None])
        day.enter("b")
        self.same(day.orders(), [True, True, None, False])
        day.enter("a")
        self.same(day.orders(), [True, True, True, False])
        self.same(day_of(PLAN, "bbb").orders(), [False] * 4)
        self.is_new_list(day.orders)

    def test_all_four_values_of_still(self):
        self.same(LedDay(PLAN).still(), [None] * 4)
        self.same(day_of(PLAN, "a").still(), [True] * 4)
        self.same(day_of(PLAN, "b").still(), [False] * 4)
        self.same(day_of(PLAN, "ab", guarded=False).still(), [True, True, "", False])
        self.same([LedDay(STUCK).still(), LedDay(STUCK).orders(), LedDay(STUCK).safe_now], [[""], [None], False])
        self.is_new_list(LedDay(PLAN).still)

    def test_still_by_the_definition(self):
        told = {True: 0, False: 0, None: 0, "": 0}
        for seed in range(300):
            plan = small_plan(seed)
            chance, day = random.Random(seed), LedDay(plan, guarded=seed % 2 == 0)
            while True:
                wanted = []
                for pair, order in zip(table_pairs(plan), day.orders()):
                    both = [rows_have(plan, day.standing, *pair), rows_have(plan, day.standing, *pair[::-1])] \
                        if order is None else [order, not order]
                    wanted.append({(True, True): None, (True, False): True, (False, True): False, (False, False): ""}[tuple(both)])
                    told[wanted[-1]] += order is None
                self.same(day.still(), wanted)
                self.assertTrue("" not in wanted or not day.safe_now)
                if not day.choices():
                    break
                day.enter(chance.choice(day.choices()))
        self.assertTrue(min(told.values()) > 10, told)

    def test_choices_standing_and_safe_now(self):
        for seed in range(150):
            plan, chance = small_plan(seed), random.Random(seed)
            plain, safety = PlainStandings(plan), Safety(plan)
            for guarded in (True, False):
                day = LedDay(plan, guarded=guarded)
                while True:
                    lets = [train for train in plain.lets(day.standing)
                            if not guarded or safety.is_safe(plain.after(day.standing, train))]
                    self.same([day.choices(), day.safe_now], [lets, safety.is_safe(day.standing)])
                    if not lets:
                        break
                    day.enter(chance.choice(lets))
        self.is_new_list(LedDay(PLAN).choices)

    def test_a_guarded_day_from_a_safe_standing_comes_to_the_end(self):
        for seed in range(150):
            chance = random.Random(seed)
            plan = some_plan(chance)
            day = LedDay(plan)
            if day.safe_now:
                while day.choices():
                    day.enter(chance.choice(day.choices()))
                    self.same(day.safe_now, True)
                self.same(day.is_over, True)
                self.same(Web(day.course()).is_runnable, True)

    def test_a_day_to_the_end_is_a_day_of_its_course(self):
        told = 0
        for seed in range(200):
            chance = random.Random(seed)
            plan = some_plan(chance)
            day, delays = LedDay(plan), {}
            while day.choices():
                train, late = chance.choice(day.choices()), chance.choice([0, 0, 4, 30])
                day.enter(train, late=late)
                delays[day.made()[-1][0]] = late
            if day.is_over:
                row = [entry for entry, _ in day.made()]
                self.same(day.course().firsts(), Table.of_row(plan, row).firsts())
                self.same(day.orders(), day.course().firsts())
                self.same(Moments(day.course(), delays).moments(), {entry: day.moment(entry) for entry in plan.entries()})
                self.same(play_row(plan, row).is_over, True)
                told += len(row) > 3
        self.assertGreater(told, 60)

    def test_what_is_barred_is_finished_by_no_row(self):
        told = 0
        for seed in range(200):
            plan, chance = small_plan(seed), random.Random(seed)
            day = LedDay(plan)
            while day.safe_now:
                for train in plan.trains():
                    try:
                        day.preview(train)
                    except Barred:
                        self.same(list(entry_rows(plan, after(plan, day.standing, train))), [])
                        told += 1
                    except DayError:
                        pass
                    else:
                        self.assertNotEqual(list(entry_rows(plan, after(plan, day.standing, train))), [])
                if not day.choices():
                    break
                day.enter(chance.choice(day.choices()))
        self.assertGreater(told, 20)

    def test_a_plan_without_trains(self):
        day = LedDay(NONE.plan)
        self.same([day.made(), day.orders(), day.still(), day.choices(), day.standing, day.safe_now, day.is_over,
                   day.course().firsts(), day.outlook(day.course()), day.goes_on(NONE), day.history()],
                  [[], [], [], [], (), True, True, [], {}, True, (0, 0)])

    def test_attributes_and_parameters(self):
        day = LedDay(plan=PLAN, guarded=False)
        self.same([day.plan == PLAN, day.guarded, LedDay(PLAN).guarded], [True, False, True])
        with self.assertRaises(TypeError):
            LedDay(PLAN, False)
        self.same([repr(LedDay(PLAN)), repr(day_of(PLAN, "a")), repr(day_of(PLAN, "aaa"))],
                  ["LedDay(0 entries)", "LedDay(1 entries)", "LedDay(3 entries)"])

    def test_too_many_standings(self):
        for guarded in (True, False):
            self.refused(TooMany("standings", 4000), LedDay, many_standings(3, 3, 3, 3, 3, 3), guarded=guarded)
            self.same(LedDay(many_standings(4, 4, 4, 3, 3, 1), guarded=guarded).standing, (0,) * 6)


class GoesOnTest(Case):
    def test_both_ways(self):
        other = Table(PLAN, [False] * 4)
        self.same([LedDay(PLAN).goes_on(FIRST), LedDay(PLAN).goes_on(table=other)], [True, True])
        self.same([day_of(PLAN, "a").goes_on(FIRST), day_of(PLAN, "a").goes_on(other)], [True, False])
        self.same([day_of(PLAN, "aaab").goes_on(FIRST), day_of(PLAN, "b").goes_on(FIRST)], [True, False])
        # The decided orders are kept, but there is a ring.
        self.same([LedDay(PLAN).goes_on(Table(PLAN, [True, True, True, False])),
                   day_of(PLAN, "a").goes_on(Table(PLAN, [True, True, False, True]))], [False, False])
        self.same(LedDay(STUCK).goes_on(Table(STUCK, [True])), False)

    def test_no_table_of_the_plan(self):
        longer = Plan(PLACE, A.longer(1), B)
        for value in ANYTHING + [Table(longer, [True] * 4), [True] * 4, NONE, PLAN]:
            self.same(LedDay(PLAN).goes_on(value), False)
        self.same(LedDay(PLAN).goes_on(Table(Plan(PLACE, A, B), [True] * 4)), True)

    def test_the_course_goes_on(self):
        for seed in range(100):
            chance = random.Random(seed)
            plan = some_plan(chance)
            day = LedDay(plan)
            while day.safe_now:
                course = day.course()
                self.same([day.goes_on(course), course.plan == plan], [True, True])
                row = [entry for entry, _ in day.made()] + Safety(plan).lead(day.standing)
                self.same(course.firsts(), Table.of_row(plan, row).firsts())
                if not day.choices():
                    break
                day.enter(chance.choice(day.choices()))

    def test_course_of_a_doomed_day(self):
        self.refused(Doomed(), day_of(PLAN, "ab", guarded=False).course)
        self.refused(Doomed(), LedDay(STUCK).course)
        self.same([day_of(PLAN, "b").course().firsts(), LedDay(PLAN).course().firsts()], [[False] * 4, [True] * 4])


class OutlookTest(Case):
    def test_the_passing_place(self):
        day = LedDay(PLAN)
        day.enter("a", late=2)
        self.same(day.outlook(day.course()), dict(zip(ENTRIES, [2, 13, 18, 25, 29, 40])))
        bounds = {A0: 100, A1: 10, B0: 4}
        self.same(day.outlook(FIRST, bounds, late=1), dict(zip(ENTRIES, [2, 23, 28, 35, 39, 50])))
        self.same(day.outlook(table=FIRST, bounds=bounds, late=2), dict(zip(ENTRIES, [2, 23, 28, 39, 43, 54])))
        self.same(day.outlook(FIRST, bounds), dict(zip(ENTRIES, [2, 13, 18, 25, 29, 40])))
        self.same(day.outlook(FIRST, None, late=36), day.outlook(FIRST))
        self.same(day.outlook(FIRST, {}, late=36), day.outlook(FIRST))

    def test_before_the_first_entry(self):
        self.same(LedDay(PLAN).outlook(FIRST), Moments(FIRST).moments())

    def test_against_all_delays(self):
        told = 0
        for seed in range(250):
            plan, chance = small_plan(seed), random.Random(seed)
            day = LedDay(plan)
            for _ in range(chance.randrange(len(plan.entries()) + 1)):
                if day.choices():
                    day.enter(chance.choice(day.choices()), late=chance.choice([0, 5]))
            if day.safe_now:
                table = day.course()
                bounds = {entry: chance.randrange(3) for entry in plan.entries() if chance.random() < 0.8}
                late = chance.choice([0, 1, 2, 36])
                self.same(day.outlook(table, bounds, late=late), self.latest_behind(table, dict(day.made()), bounds, late))
                self.same(day.outlook(table), self.latest_behind(table, dict(day.made()), {}, 0))
                told += 0 < len(day.made()) < len(plan.entries())
        self.assertGreater(told, 60)

    def latest_behind(self, table, made, bounds, late):
        """The latest moment of each entry over all delays of the entries that are not made."""
        plain = PlainWeb(table)
        found = {entry: 0 for entry in table.plan.entries()}
        for delays in all_delays({entry: bounds[entry] for entry in bounds if entry not in made}):
            if late_ones(delays, "steps") <= late:
                moments = dict(made)
                for entry in plain.row():
                    if entry not in made:
                        sums = [moments[tie[0]] + tie[2] for tie in plain.ties if tie[1] == entry]
                        moments[entry] = max([table.plan.step_of(entry).base, *sums]) + delays.get(entry, 0)
                found = {entry: max(found[entry], moments[entry]) for entry in found}
        return found

    def test_entries_that_are_made_later_keep_to_it(self):
        for seed in range(100):
            chance = random.Random(seed)
            plan = some_plan(chance)
            day = LedDay(plan)
            while day.safe_now and not day.is_over:
                wanted = day.outlook(day.course())
                ahead = day.twin()
                for train, _ in Safety(plan).lead(day.standing):
                    ahead.enter(train)
                self.same({entry: ahead.moment(entry) for entry in plan.entries()}, wanted)
                day.enter(chance.choice(day.choices()), late=chance.randrange(9))

    def test_errors_in_their_order(self):
        day = day_of(PLAN, "a")
        for value in ANYTHING + [Table(PLAN, [False] * 4), Table(PLAN, [True, True, False, True]), NONE]:
            self.refused(InvalidTable(value), day.outlook, value, "no bounds", late=-1)
        for value in NO_DELAYS:
            self.refused(InvalidDelays(value), day.outlook, FIRST, value, late=-1)
        for value in NO_COUNTS:
            self.refused(InvalidNumber(value), day.outlook, FIRST, {A0: 10 ** 6}, late=value)
            self.refused(InvalidNumber(value), day.outlook, FIRST, late=value)
        with self.assertRaises(TypeError):
            day.outlook(FIRST, {}, 1)

    def test_bounds_that_are_passed_stay(self):
        bounds = {A1: 10, A0: 7}
        LedDay(PLAN).outlook(FIRST, bounds, late=2).clear()
        self.same(bounds, {A1: 10, A0: 7})


class UndoTest(Case):
    def test_undo_and_redo(self):
        day = LedDay(PLAN)
        for call in (day.undo, day.redo):
            self.refused(NothingLeft(), call)
        states = [state_of(day)]
        day.enter("a", late=3)
        states.append(state_of(day))
        day.enter_all("a", "a")
        states.append(state_of(day))
        self.same(day.history(), (2, 0))
        for at in (1, 0):
            self.same(day.undo(), None)
            self.same(state_of(day)[:8], states[at][:8])
            self.same(day.history(), (at, 2 - at))
        self.refused(NothingLeft(), day.undo)
        for at in (1, 2):
            self.same(day.redo(), None)
            self.same(state_of(day)[:8], states[at][:8])
        self.same([day.history(), day.made()], [(2, 0), [(A0, 3), (A1, 14), (A2, 19)]])
        self.refused(NothingLeft(), day.redo)

    def test_another_step_ends_redoing(self):
        for step in (lambda day: day.enter("b"), lambda day: day.enter_all("b")):
            day = LedDay(PLAN)
            day.enter("a", late=1)
            day.undo()
            step(day)
            self.same([day.history(), day.made()], [(1, 0), [(B0, 0)]])
            self.refused(NothingLeft(), day.redo)

    def test_what_is_no_step_does_not_end_it(self):
        day = day_of(PLAN, "aa")
        day.undo()
        day.preview("a")
        day.enter_all()
        day.twin().enter("a", late=9)
        self.refused(Barred("b", 0), day.enter, "b")
        self.same(day.history(), (1, 1))
        day.redo()
        self.same(day.made(), [(A0, 0), (A1, 11)])

    def test_twins_are_independent(self):
        for guarded in (True, False):
            day = LedDay(PLAN, guarded=guarded)
            day.enter("a", late=3)
            day.enter_all("a", "a")
            day.undo()
            twin = day.twin()
            self.assertIs(type(twin), LedDay)
            self.same([state_of(twin), twin.guarded, twin.plan == PLAN], [state_of(day), guarded, True])
            kept = state_of(day)
            twin.redo()
            twin.enter("b", late=8)
            self.same([state_of(day), twin.made()[-1], twin.history()], [kept, (B0, 26 + 8), (3, 0)])
            kept = state_of(twin)
            day.undo()
            day.enter("b")
            self.same([state_of(twin), day.made()], [kept, [(B0, 0)]])


if __name__ == "__main__":
    unittest.main()
