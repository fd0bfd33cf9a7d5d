import unittest

from helpers import ANYTHING, Case
from ringlessday.errors import InvalidName, InvalidNumber, InvalidStep, InvalidTimes, TooMany, UnknownEntry
from ringlessday.names import is_name
from ringlessday.trains import Step, Train


class StepTest(Case):
    def test_attributes_and_questions(self):
        step = Step("west.s.1", [4, 6, 12], stop=2, public=30)
        self.same([step.route, step.times(), step.stop, step.public], ["west.s.1", [4, 6, 12], 2, 30])
        self.same([step.arrival, step.base], [12, 30])

    def test_defaults_and_names_of_parameters(self):
        step = Step(route="x", times=[1])
        self.same([step.route, step.times(), step.stop, step.public, step.arrival, step.base], ["x", [1], 0, None, 1, 0])
        self.assertRaises(TypeError, Step, "x", [1], 5)

    def test_a_public_moment_of_0(self):
        self.same([Step("x", [1], public=0).public, Step("x", [1], public=0).base], [0, 0])

    def test_any_string_is_a_route(self):
        for route in ("", "no route", "x" * 50):
            self.same(Step(route, [1]).route, route)

    def test_times_at_the_edges(self):
        for times in ([1], [10 ** 6], [1, 2], [1, 10 ** 6], list(range(1, 25)), (3, 9)):
            self.same(Step("x", times).times(), list(times))

    def test_invalid_times(self):
        for times in ([], (), [0], [-1], [0, 1], [10 ** 6 + 1], [1, 10 ** 6 + 1], [1, 1], [2, 1], [1, 3, 2],
                      list(range(1, 26)), [True], [1, None], [1, "2"], [1, (2,)], [1, [2]], [[1]], "1", "12", 1):
            self.refused(InvalidTimes(times), Step, "x", times)
        for value in ANYTHING:
            self.refused(InvalidTimes(value), Step, "x", value)

    def test_invalid_stop(self):
        for value in (0, 1, 10 ** 6):
            self.same(Step("x", [1], stop=value).stop, value)
        for value in [-1, 10 ** 6 + 1, *[value for value in ANYTHING if repr(value) not in ("0", "1", "7", "51")]]:
            self.refused(InvalidNumber(value), Step, "x", [1], stop=value)

    def test_invalid_public(self):
        for value in (None, 0, 1, 10 ** 6):
            self.same(Step("x", [1], public=value).public, value)
        for value in [-1, 10 ** 6 + 1, *[value for value in ANYTHING if repr(value) not in ("0", "1", "7", "51", "None")]]:
            self.refused(InvalidNumber(value), Step, "x", [1], public=value)

    def test_errors_in_their_order(self):
        self.refused(InvalidTimes([]), Step, "x", [], stop=-1, public=-2)
        self.refused(InvalidNumber(-1), Step, "x", [1], stop=-1, public=-2)

    def test_times_are_copied(self):
        times = [4, 6]
        step = Step("x", times)
        times.append(7)
        self.same(step.times(), [4, 6])
        self.is_new_list(step.times)

    def test_equal(self):
        step = Step("x", [1, 2], stop=3, public=4)
        self.assertTrue(step == Step("x", (1, 2), stop=3, public=4))
        self.assertFalse(step != Step("x", [1, 2], stop=3, public=4))
        for other in (Step("y", [1, 2], stop=3, public=4), Step("x", [1, 3], stop=3, public=4),
                      Step("x", [1, 2, 3], stop=3, public=4), Step("x", [1, 2], stop=4, public=4),
                      Step("x", [1, 2], stop=3, public=5), Step("x", [1, 2], stop=3)):
            self.assertFalse(step == other)
            self.assertTrue(step != other)
        self.assertFalse(Step("x", [1]) == Step("x", [1], public=0))
        for value in [*ANYTHING, "x", [1, 2]]:
            self.assertFalse(step == value)

    def test_repr(self):
        self.assertEqual(repr(Step("west.s.1", [1])), "Step(west.s.1)")


class TrainTest(Case):
    def setUp(self):
        self.one = Step("west.s.1", [4, 6])
        self.two = Step("s.east.1", [5], stop=1)

    def test_attributes_and_questions(self):
        train = Train("a", 25, self.one, self.two, out=3)
        self.same([train.name, train.length, train.out, train.steps()], ["a", 25, 3, [self.one, self.two]])
        self.assertEqual([train[0], train[1]], [self.one, self.two])
        self.same([len(train), bool(train), repr(train)], [2, True, "Train(a, 2 steps)"])
        self.assertEqual(repr(Train("abcdef", 1, self.one)), "Train(abcdef, 1 steps)")

    def test_class_values_and_default(self):
        self.same([Train.STEPS, Train.LENGTH], [6, 60])
        self.same(Train("a", 25, self.one).out, 1)

    def test_invalid_name(self):
        for value in ANYTHING:
            if is_name(value):
                self.assertEqual(Train(value, 1, self.one).name, value)
            else:
                self.refused(InvalidName(value), Train, value, 0, None, out=0)

    def test_invalid_length(self):
        self.same([Train("a", length, self.one).length for length in (1, 60)], [1, 60])
        for value in [0, 61, *[value for value in ANYTHING if repr(value) not in ("1", "7", "51")]]:
            self.refused(InvalidNumber(value), Train, "a", value, None, out=0)

    def test_invalid_step(self):
        for value in ANYTHING:
            self.refused(InvalidStep(value), Train, "a", 1, value, out=0)
            self.refused(InvalidStep(value), Train, "a", 1, self.one, value, "x", out=0)
            self.refused(InvalidStep(value), Train, "a", 1, *[self.one] * 8, value, out=0)

    def test_too_many_steps(self):
        self.assertEqual(len(Train("a", 1, *[self.one] * 6)), 6)
        self.refused(TooMany("steps", 6), Train, "a", 1, *[self.one] * 7, out=0)

    def test_no_step(self):
        self.refused(InvalidStep(None), Train, "a", 1)
        self.refused(InvalidStep(None), Train, "a", 1, out=0)

    def test_invalid_out(self):
        self.same([Train("a", 1, self.one, out=out).out for out in (1, 10 ** 6)], [1, 10 ** 6])
        for value in [0, 10 ** 6 + 1, *[value for value in ANYTHING if repr(value) not in ("1", "7", "51")]]:
            self.refused(InvalidNumber(value), Train, "a", 1, self.one, out=value)

    def test_steps_are_a_new_list(self):
        self.is_new_list(Train("a", 1, self.one, self.two).steps)

    def test_index(self):
        train = Train("a", 1, self.one, self.two)
        for value in [2, -1, -2, *[value for value in ANYTHING if repr(value) not in ("0", "1")]]:
            self.refused(UnknownEntry(("a", value)), lambda: train[value])
        self.refused(UnknownEntry(("a", True)), lambda: train[True])

    def test_a_train_is_not_iterated_over(self):
        self.assertRaises(TypeError, list, Train("a", 1, self.one))

    def test_longer(self):
        train = Train("a", 25, self.one, self.two, out=3)
        self.assertEqual(train.longer(5), Train("a", 30, self.one, self.two, out=3))
        self.assertEqual(train.longer(by=-24), Train("a", 1, self.one, self.two, out=3))
        self.assertEqual(train.longer(0), train)
        self.assertEqual(train.longer(35).length, 60)
        self.refused(InvalidNumber(61), train.longer, 36)
        self.refused(InvalidNumber(0), train.longer, -25)
        self.refused(InvalidNumber(10 ** 9 + 25), train.longer, 10 ** 9)
        self.assertEqual(train.length, 25)

    def test_equal(self):
        train = Train("a", 25, self.one, self.two, out=3)
        self.assertTrue(train == Train("a", 25, Step("west.s.1", [4, 6]), self.two, out=3))
        self.assertFalse(train != Train("a", 25, Step("west.s.1", [4, 6]), self.two, out=3))
        for other in (Train("b", 25, self.one, self.two, out=3), Train("a", 24, self.one, self.two, out=3),
                      Train("a", 25, self.two, self.one, out=3), Train("a", 25, self.one, out=3),
                      Train("a", 25, self.one, self.two, out=4)):
            self.assertFalse(train == other)
            self.assertTrue(train != other)
        for value in [*ANYTHING, [self.one, self.two]]:
            self.assertFalse(train == value)


if __name__ == "__main__":
    unittest.main()
