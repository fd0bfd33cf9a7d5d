import random
import unittest
from itertools import product

from chances import LINE, PLACE, some_plan
from helpers import ANYTHING, Case
from oracles import PlainWeb
from ringlessday.errors import InvalidWish, NoDay, UnknownEntry
from ringlessday.fits import Fit, Unfit, fit, limits
from ringlessday.moments import Moments
from ringlessday.orders import Table
from ringlessday.plans import Plan
from ringlessday.trains import Step, Train
from ringlessday.webs import Web
from test_machine import A, B
from test_moments import BAR, NONE, RING, TABLE, some_days
from test_webs import some_table

X, Y = ("a", 0), ("b", 2)
ENTRIES = TABLE.plan.entries()
EARLY = dict(zip(ENTRIES, [0, 11, 16, 23, 27, 38]))
SMALL = Table(Plan(LINE, Train("a", 5, Step("west.ey.1", [1, 2], public=1)), Train("b", 5, Step("east.wz.1", [1, 2]))), [])


def some_wishes(chance, plan, most=4):
    wishes = []
    for _ in range(chance.randrange(most + 1) if plan.entries() else 0):
        one, other = chance.choice(plan.entries()), chance.choice(plan.entries())
        wishes.append(chance.choice([("latest", one, chance.randrange(-5, 60)), ("seen", one, chance.randrange(0, 60)),
                                     ("apart", one, other, chance.randrange(-20, 40))]))
    return wishes


def plain_limits(table, wishes):
    """All limits, by their definition."""
    found = list(PlainWeb(table).ties) + [(None, entry, table.plan.step_of(entry).base, "base")
                                          for entry in table.plan.entries()]
    for wish in wishes:
        if wish[0] == "seen":
            found.append((None, wish[1], wish[2], "wish"))
        if wish[0] == "apart":
            found.append((wish[2], wish[1], -wish[3], "wish"))
        else:
            found.append((wish[1], None, -wish[2], "wish"))
    return found


class LimitsTest(Case):
    def test_in_order(self):
        wishes = [("seen", Y, 50), ("apart", X, Y, 45), ("latest", X, 7), ("apart", Y, X, -40), ("latest", X, 7)]
        self.same(limits(TABLE, *wishes), Web(TABLE).ties() + [(None, entry, 0, "base") for entry in ENTRIES] + [
            (None, Y, 50, "wish"), (Y, None, -50, "wish"), (Y, X, -45, "wish"), (X, None, -7, "wish"), (X, Y, 40, "wish"),
            (X, None, -7, "wish")])
        self.same([limits(NONE), limits(table=SMALL)], [[], [(None, ("a", 0), 1, "base"), (None, ("b", 0), 0, "base")]])
        self.is_new_list(lambda: limits(TABLE))

    def test_bases_in_the_order_of_the_entries(self):
        plan = Plan(LINE, Train("z", 5, Step("east.wz.1", [1, 2], public=3)), Train("a", 5, Step("west.ey.1", [1, 2])))
        self.same(limits(Table(plan, [])), [(None, ("z", 0), 3, "base"), (None, ("a", 0), 0, "base")])

    def test_a_web_with_a_ring_has_limits(self):
        self.same(len(limits(RING)), len(Web(RING).ties()) + 6)

    def test_by_the_definition(self):
        for seed in range(80):
            chance = random.Random(seed)
            plan = some_plan(chance)
            table = some_table(chance, plan)
            wishes = some_wishes(chance, plan)
            if not Web(table).bars():
                self.same(limits(table, *wishes), plain_limits(table, wishes))

    def test_no_day_for_a_bar(self):
        for call in (limits, fit):
            self.refused(NoDay(), call, BAR)
            self.refused(NoDay(), call, BAR, None)

    def test_both_edges_of_the_numbers(self):
        for number in (10 ** 9, -10 ** 9):
            for wish in (("latest", X, number), ("seen", X, number), ("apart", X, Y, number)):
                self.same(limits(TABLE, wish), plain_limits(TABLE, [wish]))
                more = (*wish[:-1], number + (1 if number > 0 else -1))
                self.refused(InvalidWish(0), limits, TABLE, more)
                self.refused(InvalidWish(0), fit, TABLE, more)

    def test_invalid_wishes(self):
        for value in ANYTHING + [("latest", X), ("latest", X, Y, 5), ("seen", X), ("seen", X, Y, 5), ("apart", X, 5),
                                 ("apart", X, Y), ("apart", X, Y, X, 5), ["latest", X, 5], ("Latest", X, 5), ("late", X, 5),
                                 ("latest", ("a", 3), 5), ("latest", ("c", 0), 5), ("latest", ("a", False), 5),
                                 ("latest", ["a", 0], 5), ("latest", None, 5), ("seen", X, None), ("seen", X, True),
                                 ("seen", X, "5"), ("seen", X, (5,)), ("apart", X, ("a", 3), 5), ("apart", None, Y, 5),
                                 ("apart", X, Y, False), ("apart", X, 5, Y), (("latest",), X, 5), (None, X, 5), (X, "latest", 5),
                                 ("base", X, 5), ("wish", X, 5)]:
            for call in (limits, fit):
                self.refused(InvalidWish(0), call, TABLE, value)
                self.refused(InvalidWish(2), call, TABLE, ("latest", X, 5), ("apart", X, X, 0), value, None)
        self.refused(InvalidWish(0), fit, NONE, ("latest", X, 5))


class FitTest(Case):
    def test_without_wishes(self):
        found = fit(TABLE)
        self.assertIs(type(found), Fit)
        self.same([bool(found), found.earliest(), [found.least(entry) for entry in ENTRIES]], [True, EARLY, list(EARLY.values())])
        self.same([found.greatest(entry) for entry in ENTRIES], [None] * 6)

    def test_wishes(self):
        found = fit(TABLE, ("latest", ("b", 0), 30), ("apart", ("b", 1), Y, 14))
        self.same([found.least(entry=entry) for entry in ENTRIES], [0, 11, 16, 23, 27, 38])
        self.same([found.greatest(entry=entry) for entry in ENTRIES], [7, 18, 23, 30, None, None])
        found = fit(TABLE, ("seen", X, 5), ("apart", X, Y, 50))
        self.same([found.least(entry) for entry in ENTRIES], [5, 16, 21, 28, 32, 43])
        self.same([found.greatest(entry) for entry in ENTRIES], [5, 28, 33, 40, 44, 55])
        self.same(bool(fit(TABLE, ("apart", X, Y, -10))), False)
        found = fit(TABLE, ("apart", Y, X, -40))
        self.same([found.least(Y), found.least(X)], [40, 0])

    def test_a_fit_at_the_very_edge(self):
        self.same([bool(fit(TABLE, ("latest", Y, 38))), bool(fit(TABLE, ("latest", Y, 37)))], [True, False])
        self.same([bool(fit(TABLE, ("apart", X, Y, 38))), bool(fit(TABLE, ("apart", X, Y, 37)))], [True, False])
        self.same([bool(fit(TABLE, ("seen", Y, 38))), bool(fit(TABLE, ("seen", Y, 37)))], [True, False])
        self.same([bool(fit(TABLE, ("apart", X, X, 0))), bool(fit(TABLE, ("apart", X, X, -1)))], [True, False])
        self.same([bool(fit(SMALL, ("latest", ("a", 0), 1))), bool(fit(SMALL, ("latest", ("a", 0), 0)))], [True, False])
        self.same([bool(fit(SMALL, ("seen", ("b", 0), 0))), bool(fit(SMALL, ("seen", ("b", 0), -1)))], [True, False])

    def test_unknown_entries(self):
        found = fit(TABLE, ("latest", Y, 100))
        for value in ANYTHING + [("a", 3), ("c", 0), ("a", True), ["a", 0]]:
            self.refused(UnknownEntry(value), found.least, value)
            self.refused(UnknownEntry(value), found.greatest, value)

    def test_a_plan_without_trains(self):
        found = fit(NONE)
        self.same([bool(found), found.earliest(), found.is_day({}), found.is_day({X: 1})], [True, {}, True, False])

    def test_is_day(self):
        found = fit(TABLE, ("latest", Y, 40), ("apart", ("b", 0), ("b", 1), 5))
        self.same([found.is_day(EARLY), found.is_day(moments=dict(list(EARLY.items())[::-1]))], [True, True])
        for entry, number, right in ((X, -1, False), (X, 1, False), (("a", 1), 12, False), (Y, 40, True), (Y, 41, False),
                                     (Y, 37, False), (("b", 1), 26, False), (("b", 0), 22, False)):
            self.same(found.is_day({**EARLY, entry: number}), right)
        shifted = {entry: moment + 2 for entry, moment in EARLY.items()}
        self.same([found.is_day(shifted), found.is_day({**shifted, Y: 41})], [True, False])
        self.same(found.is_day({**EARLY, ("b", 0): 23, ("b", 1): 28, Y: 39}), True)
        self.same(found.is_day({**EARLY, ("b", 1): 29, Y: 40}), False)
        self.same(found.is_day({**EARLY, X: False}), False)

    def test_days_that_lack_an_entry_or_have_one_more(self):
        found = fit(TABLE)
        for entry in ENTRIES:
            self.same(found.is_day({one: EARLY[one] for one in ENTRIES if one != entry}), False)
            self.same(found.is_day({("c", 0) if one == entry else one: EARLY[one] for one in ENTRIES}), False)
        self.same([found.is_day({**EARLY, ("c", 0): 50}), found.is_day({}), found.is_day({**EARLY, X: None})], [False] * 3)
        for value in ANYTHING:
            self.same([found.is_day(value), found.is_day({**EARLY, X: value})], [False, type(value) is int and value == 0])

    def test_dicts_are_new(self):
        found = fit(TABLE)
        found.earliest().clear()
        self.same(found.earliest(), EARLY)

    def test_the_earliest_day_and_the_one_with_the_greatest_moments(self):
        fits = 0
        for table, plain in some_days(200):
            wishes = some_wishes(random.Random(len(plain.ties)), table.plan, 3)
            found = fit(table, *wishes)
            if not found:
                continue
            fits += 1
            self.same(found.is_day(found.earliest()), True)
            self.same(found.earliest(), {entry: found.least(entry) for entry in table.plan.entries()})
            if not wishes:
                self.same(found.earliest(), Moments(table).moments())
            self.look_at_edges(found, table)
        self.assertTrue(fits > 50)

    def look_at_edges(self, found, table):
        """The greatest moments at once, with any late ones for the others, are a day; one less or more is none."""
        late = {entry: found.greatest(entry) for entry in table.plan.entries()}
        most = max([moment for moment in late.values() if moment is not None], default=0)
        far = {entry: moment if moment is not None else most + 10 ** 5 + least for (entry, moment), least in
               zip(late.items(), [found.least(entry) for entry in late])}
        self.same(found.is_day(far), True)
        for entry in table.plan.entries():
            least = found.least(entry)
            self.assertFalse(found.is_day({**found.earliest(), entry: least - 1}))
            if late[entry] is not None:
                self.assertFalse(found.is_day({**far, entry: late[entry] + 1}))


class UnfitTest(Case):
    RING = [(None, Y, 50, "wish"), (Y, X, -45, "wish"), (X, None, -4, "wish")]
    WISHES = [("seen", Y, 50), ("apart", X, Y, 45), ("latest", X, 4)]

    def test_what_fit_gives(self):
        found = fit(TABLE, *self.WISHES)
        self.assertIs(type(found), Unfit)
        self.same([bool(found), found.holds(), sum(row[2] for row in found.ring()) > 0], [False, True, True])
        self.is_new_list(found.ring)

    def test_a_ring_of_the_web_alone(self):
        for wishes in ([], [("latest", X, 100)]):
            found = fit(RING, *wishes)
            self.assertIs(type(found), Unfit)
            self.same([found.holds(), bool(found)], [True, False])

    def test_exactly_where_no_day_keeps_the_wishes(self):
        told = [0, 0]
        for seed in range(500):
            chance = random.Random(seed)
            plan = some_plan(chance)
            table = some_table(chance, plan)
            if Web(table).bars():
                continue
            wishes = some_wishes(chance, plan)
            found = fit(table, *wishes)
            self.same(bool(found), self.has_day(table, wishes))
            told[bool(found)] += 1
            if not found:
                self.assertIs(found.holds(), True)
                rows = found.ring()
                self.assertTrue(all(row in plain_limits(table, wishes) for row in rows))
                self.assertTrue(all(one[1] == other[0] for one, other in zip(rows, rows[1:] + rows[:1])))
        self.assertTrue(min(told) > 40, told)

    def has_day(self, table, wishes):
        """Whether no ring has a sum above 0: the greatest sums between all two places, by all places between."""
        nodes = [None] + table.plan.entries()
        far = {}
        for one, other, weight, _ in plain_limits(table, wishes):
            far[(one, other)] = max(far.get((one, other), weight), weight)
        for middle, one, other in product(nodes, nodes, nodes):
            if (one, middle) in far and (middle, other) in far:
                total = far[(one, middle)] + far[(middle, other)]
                far[(one, other)] = max(far.get((one, other), total), total)
        return all(far.get((node, node), 0) <= 0 for node in nodes)

    def test_right_rings(self):
        for at in range(3):
            self.same(Unfit(TABLE, self.WISHES, self.RING[at:] + self.RING[:at]).holds(), True)
        self.same(Unfit(table=TABLE, wishes=tuple(self.WISHES), ring=tuple(self.RING)).holds(), True)
        self.same(Unfit(TABLE, self.WISHES[::-1], self.RING).holds(), True)

    def test_rings_that_go_round_twice(self):
        self.same(Unfit(TABLE, self.WISHES, self.RING * 2).holds(), True)
        ring = [(None, X, 0, "base"), (X, None, -4, "wish")]
        # A ring with a sum of 0 or below, and one of both together.
        self.same([Unfit(TABLE, self.WISHES, ring).holds(), Unfit(TABLE, self.WISHES, ring * 3).holds()], [False, False])
        # The ring has a sum of 1, and the other one has one of -4.
        self.same([Unfit(TABLE, self.WISHES, self.RING + ring).holds(),
                   Unfit(TABLE, self.WISHES, self.RING * 5 + ring).holds()], [False, True])

    def test_one_thing_changed(self):
        for value in ([], self.RING[:2], self.RING[1:], [self.RING[0], self.RING[2], self.RING[1]], self.RING + self.RING[:1],
                      [list(self.RING[0]), *self.RING[1:]], [(None, Y, 51, "wish"), *self.RING[1:]],
                      [(None, Y, 50, "base"), *self.RING[1:]], [(None, Y, 50), *self.RING[1:]],
                      [(None, Y, 50, "wish", 0), *self.RING[1:]], [("", Y, 50, "wish"), *self.RING[1:]],
                      [(None, ("b", 1), 50, "wish"), *self.RING[1:]], [None, *self.RING], [(None, Y, "50", "wish"), *self.RING[1:]],
                      [*self.RING[:2], (("a", False), None, -4, "wish")], [(None, Y, 50, ["wish"]), *self.RING[1:]]):
            self.same(Unfit(TABLE, self.WISHES, value).holds(), False)
        self.same(Unfit(TABLE, self.WISHES[:2], self.RING).holds(), False)
        self.same(Unfit(TABLE, [("seen", Y, 50), ("apart", X, Y, 46), ("latest", X, 4)], self.RING).holds(), False)
        self.same(Unfit(TABLE, [("seen", Y, 50), ("apart", X, Y, 45), ("latest", X, 5)],
                        self.RING[:2] + [(X, None, -5, "wish")]).holds(), False)

    def test_numbers_that_are_no_numbers(self):
        wishes = [("seen", ("b", 0), 1), ("latest", ("b", 0), 0)]
        ring = [(None, ("b", 0), 1, "wish"), (("b", 0), None, 0, "wish")]
        self.same([Unfit(SMALL, wishes, ring).holds(), Unfit(SMALL, wishes, [(None, ("b", 0), True, "wish"), ring[1]]).holds(),
                   Unfit(SMALL, wishes, [ring[0], (("b", 0), None, False, "wish")]).holds()], [True, False, False])

    def test_values_of_other_kinds(self):
        for value in ANYTHING + [{}, "ab", self.RING[0]]:
            found = Unfit(TABLE, self.WISHES, value)
            self.same([found.ring(), found.holds(), bool(found)], [value, False, False])

    def test_copies(self):
        wishes, ring = list(self.WISHES), list(self.RING)
        found = Unfit(TABLE, wishes, ring)
        wishes.clear()
        ring.clear()
        self.same([found.holds(), found.ring()], [True, self.RING])
        found.ring().clear()
        self.same(found.holds(), True)
        inner = Unfit(TABLE, [], [["x"]])
        inner.ring()[0].append("spoilt")
        self.same(inner.ring(), [["x"]])

    def test_of_a_table_with_a_bar(self):
        wishes = [("latest", ("a", 0), -1)]
        ring = [(None, ("a", 0), 0, "base"), (("a", 0), None, 1, "wish")]
        self.same(Unfit(BAR, wishes, ring).holds(), True)


if __name__ == "__main__":
    unittest.main()
