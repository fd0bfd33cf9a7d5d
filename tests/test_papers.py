import random
import unittest

from chances import led_days
from helpers import ANYTHING, Case
from oracles import PlainWeb, all_delays, late_ones, plain_moments
from ringlessday.errors import InvalidDelays, InvalidNumber, NoDay
from ringlessday.lateness import latest
from ringlessday.papers import Paper, paper
from test_lateness import FEW, NO_COUNTS, NO_DELAYS, NO_ENTRIES, some_bounds
from test_moments import BAR, NONE, RING, TABLE

ENTRIES = TABLE.plan.entries()
NUMBERS = {("a", 0): [0, 0], ("a", 1): [11, 21], ("a", 2): [16, 26], ("b", 0): [23, 33], ("b", 1): [27, 37],
           ("b", 2): [38, 48]}


def plainly_holds(table, bounds, numbers):
    """The inequalities of a paper, as they are written down."""
    late = len(next(iter(numbers.values()))) - 1
    for entry in table.plan.entries():
        base, row = table.plan.step_of(entry).base, numbers[entry]
        for count in range(late + 1):
            if row[count] < base:
                return False
            if count < late and (row[count + 1] < row[count] or row[count + 1] < base + bounds.get(entry, 0)):
                return False
    for one, other, weight, _ in PlainWeb(table).ties:
        for count in range(late + 1):
            if numbers[other][count] < numbers[one][count] + weight:
                return False
            if count < late and numbers[other][count + 1] < numbers[one][count] + weight + bounds.get(other, 0):
                return False
    return True


class PaperTest(Case):
    def test_the_passing_place(self):
        found = paper(TABLE, FEW)
        self.assertIs(type(found), Paper)
        self.same([found.holds(), found.numbers()], [True, NUMBERS])
        self.same(paper(TABLE, FEW, late=0).numbers(), {entry: row[:1] for entry, row in NUMBERS.items()})
        self.same([paper(TABLE, FEW, late=2).number(("b", 2), 2), len(paper(TABLE, FEW, late=36).numbers()[("a", 0)])],
                  [52, 37])
        self.same(paper(table=TABLE, bounds=FEW, late=1).numbers(), NUMBERS)

    def test_the_latest_moments_by_steps(self):
        for at, table in enumerate(led_days(60)):
            bounds = some_bounds(random.Random(at), table.plan, 9)
            for late in (0, 1, 3):
                found = paper(table, bounds, late=late)
                self.same(found.holds(), True)
                self.same(found.numbers(), {entry: [latest(table, entry, bounds, late=count) for count in range(late + 1)]
                                            for entry in table.plan.entries()})

    def test_one_number_that_is_too_small(self):
        for at, table in enumerate(led_days(40)):
            bounds = some_bounds(random.Random(at), table.plan, 9)
            numbers = paper(table, bounds, late=2).numbers()
            for entry in numbers:
                for count in range(3):
                    row = [number - (place == count) for place, number in enumerate(numbers[entry])]
                    self.same(Paper(table, bounds, {**numbers, entry: row}).holds(), False)

    def test_greater_numbers_throughout(self):
        for at, table in enumerate(led_days(40)):
            bounds = some_bounds(random.Random(at), table.plan, 9)
            numbers = paper(table, bounds, late=2).numbers()
            for more in (1, 7, 10 ** 9, 10 ** 40):
                greater = {entry: [number + more for number in row] for entry, row in numbers.items()}
                self.same(Paper(table, bounds, greater).holds(), True)
            self.same(Paper(table, bounds, {entry: [row[2]] * 2 for entry, row in numbers.items()}).holds(),
                      plainly_holds(table, bounds, {entry: [row[2]] * 2 for entry, row in numbers.items()}))

    def test_by_the_definition_and_the_fact(self):
        told = [0, 0]
        for at, table in enumerate(led_days(120, 5)):
            chance = random.Random(at)
            bounds = some_bounds(chance, table.plan)
            plain = PlainWeb(table)
            days = [(late_ones(delays, "steps"), plain_moments(table, plain, delays)) for delays in all_delays(bounds)]
            numbers = paper(table, bounds, late=2).numbers()
            for _ in range(6):
                # Some later numbers are raised throughout, and a few others are changed a little.
                count, more = chance.randrange(4), chance.choice([0, 1, 2])
                changed = {entry: [number + more * (place >= count) + chance.choice([0] * 9 + [1, -1])
                                   for place, number in enumerate(row)] for entry, row in numbers.items()}
                holds = plainly_holds(table, bounds, changed)
                self.same(Paper(table, bounds, changed).holds(), holds)
                told[holds] += 1
                if holds:
                    for count, moments in days:
                        self.assertTrue(all(moments[entry] <= row[most] for entry, row in changed.items()
                                            for most in range(count, 3)))
        self.assertTrue(min(told) > 60, told)

    def test_one_way_to_be_wrong_at_a_time(self):
        self.same(Paper(TABLE, FEW, {**NUMBERS, ("b", 2): [40, 48]}).holds(), True)
        # A lesser number behind a greater one, a base, a base with a bound, a tie, and a tie with a bound.
        self.same(Paper(TABLE, FEW, {**NUMBERS, ("b", 2): [49, 48]}).holds(), False)
        self.same(Paper(TABLE, FEW, {**NUMBERS, ("a", 0): [-1, 0]}).holds(), False)
        self.same(Paper(TABLE, {("a", 0): 1}, NUMBERS).holds(), False)
        self.same(Paper(TABLE, FEW, {**NUMBERS, ("b", 2): [37, 48]}).holds(), False)
        self.same(Paper(TABLE, {**FEW, ("b", 2): 10}, NUMBERS).holds(), True)
        self.same(Paper(TABLE, {**FEW, ("b", 2): 11}, NUMBERS).holds(), False)


class NumbersTest(Case):
    def test_other_values(self):
        for value in ANYTHING + [[NUMBERS], list(NUMBERS.items()), tuple(NUMBERS.items())]:
            found = Paper(TABLE, FEW, value)
            self.same([found.numbers(), found.holds(), found.number(("a", 0), 0)], [value, False, None])

    def test_dicts_that_are_no_paper(self):
        changed = [{**NUMBERS, ("c", 0): [0, 0]}, {**NUMBERS, ("a", 3): [99, 99]}, {**NUMBERS, "a": [0, 0]}, {},
                   {**NUMBERS, None: [0, 0]}, {**NUMBERS, ("b", 2): [38, 48, 58]}, {**NUMBERS, ("b", 2): [38]},
                   {entry: [] for entry in ENTRIES}, {**NUMBERS, ("b", 2): []}, {entry: None for entry in ENTRIES}]
        changed += [{one: NUMBERS[one] for one in ENTRIES if one != entry} for entry in ENTRIES]
        changed += [{(("c", 0) if one == entry else one): NUMBERS[one] for one in ENTRIES} for entry in ENTRIES]
        changed += [{**NUMBERS, entry: value} for entry in ENTRIES for value in ANYTHING]
        changed += [{entry: value for entry in ENTRIES} for value in ANYTHING]
        changed += [{**NUMBERS, ("b", 2): [value, 99]} for value in ANYTHING if type(value) is not int]
        changed += [{**NUMBERS, ("b", 2): [38, value]} for value in ANYTHING if type(value) is not int]
        for value in changed:
            found = Paper(TABLE, FEW, value)
            self.same([found.holds(), found.numbers()], [False, value])

    def test_true_and_false_are_no_numbers(self):
        self.same(Paper(TABLE, {}, {entry: [0] for entry in ENTRIES}).holds(), False)
        self.same(paper(TABLE, {}, late=0).number(("a", 0), 0), 0)
        wrong = {**paper(TABLE, {}, late=0).numbers(), ("a", 0): [False]}
        self.same([Paper(TABLE, {}, wrong).holds(), Paper(TABLE, {}, wrong).number(("a", 0), 0)], [False, None])
        keys = {(name, bool(at) if at < 2 else at): row for (name, at), row in NUMBERS.items()}
        self.same([keys == NUMBERS, Paper(TABLE, FEW, keys).holds()], [True, False])

    def test_tuples_for_lists(self):
        found = Paper(TABLE, FEW, {entry: tuple(row) for entry, row in NUMBERS.items()})
        self.same([found.holds(), found.number(("b", 2), 1)], [True, 48])

    def test_a_table_with_a_bar_or_a_ring(self):
        great = {entry: [10 ** 9, 10 ** 9] for entry in ENTRIES}
        self.same([Paper(RING, {}, great).holds(), Paper(RING, {}, great).numbers()], [False, great])
        # All ties are kept, so only the bar is left.
        self.same(Paper(BAR, {}, {("a", 0): [0], ("b", 0): [10 ** 9]}).holds(), False)
        self.same(Paper(BAR, {}, None).holds(), False)

    def test_a_plan_without_trains(self):
        self.same([paper(NONE, {}).numbers(), paper(NONE, {}).holds(), Paper(NONE, {}, {}).holds()], [{}, True, True])
        self.same([Paper(NONE, {}, {("a", 0): [1]}).holds(), Paper(NONE, {}, None).holds()], [False, False])

    def test_copies(self):
        bounds, numbers = dict(FEW), {entry: list(row) for entry, row in NUMBERS.items()}
        found = Paper(table=TABLE, bounds=bounds, numbers=numbers)
        numbers[("b", 2)][0] = 0
        numbers.clear()
        bounds[("a", 0)] = 100
        self.same([found.numbers(), found.holds()], [NUMBERS, True])
        found.numbers()[("b", 2)][0] = 0
        found.numbers().clear()
        self.same([found.numbers(), found.holds()], [NUMBERS, True])
        inner = Paper(TABLE, FEW, [["x"]])
        inner.numbers()[0].append("spoilt")
        self.same(inner.numbers(), [["x"]])
        made = paper(TABLE, FEW)
        made.numbers()[("a", 0)].append("spoilt")
        self.same(made.numbers(), NUMBERS)


class NumberTest(Case):
    def test_what_there_is(self):
        found = paper(TABLE, FEW)
        for entry, row in NUMBERS.items():
            self.same([found.number(entry, 0), found.number(entry=entry, late=1)], row)

    def test_what_there_is_not(self):
        found = paper(TABLE, FEW)
        for late in (-1, 2, 36, None, True, False, "0", (0,), [0]):
            self.same(found.number(("a", 0), late), None)
        for value in NO_ENTRIES:
            self.same(found.number(value, 0), None)
        strange = Paper(TABLE, FEW, {("a", 0): None, ("a", 1): [None, "x"], ("a", 2): "ab", "x": [1]})
        self.same([strange.number(("a", 0), 0), strange.number(("a", 1), 0), strange.number(("a", 1), 1),
                   strange.number(("a", 2), 0), strange.number(("b", 0), 0), strange.number("x", 0)], [None] * 6)


class ErrorsTest(Case):
    def test_in_their_order(self):
        for table in (RING, BAR):
            self.refused(NoDay(), paper, table, "no bounds", late=-1)
        for value in NO_DELAYS + [None]:
            self.refused(InvalidDelays(value), paper, TABLE, value, late=-1)
        for value in NO_COUNTS:
            self.refused(InvalidNumber(value), paper, TABLE, FEW, late=value)
        self.same(len(paper(TABLE, {("a", 0): 10 ** 6, ("b", 0): 0}, late=36).numbers()), 6)

    def test_late_by_name_alone(self):
        with self.assertRaises(TypeError):
            paper(TABLE, FEW, 1)


if __name__ == "__main__":
    unittest.main()
