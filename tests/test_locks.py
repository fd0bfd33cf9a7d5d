import unittest

from chances import LINK, PLACE
from helpers import Case
from ringlessday.locks import Locks

U = [("p", "hold", "left"), ("q", "guard", "left"), ("u", "hold", ""), ("w", "hold", "")]
L = [("l", "hold", ""), ("p", "hold", "right"), ("q", "guard", "right"), ("w", "hold", "")]


class LockTest(Case):
    def setUp(self):
        self.locks = Locks(PLACE, ["b", "a", "c"])

    def everything(self, locks=None):
        locks = locks or self.locks
        names = PLACE.element_names()
        return [[locks.keeper(name) for name in names], [locks.guards(name) for name in names],
                [locks.position(name) for name in names], locks.free,
                [(locks.held_by(train), locks.guarded_by(train)) for train in "abc"]]

    def test_at_first(self):
        self.same(self.everything(), [[None] * 7, [[]] * 7, ["", "", "", "left", "left", "", ""],
                                      ["e", "f", "l", "p", "q", "u", "w"], [([], [])] * 3])
        self.same(self.locks.against(U), [])

    def test_the_demands_are_those_of_routes(self):
        self.same([PLACE.route_of("west.su.1").demand(), PLACE.route_of("west.sl.1").demand()], [U, L])

    def test_lock(self):
        self.same(self.locks.lock("a", U), [])
        self.same(self.everything(), [[None, None, None, "a", None, "a", "a"], [[], [], [], [], ["a"], [], []],
                                      ["", "", "", "left", "left", "", ""], ["e", "f", "l"],
                                      [(["p", "u", "w"], ["q"]), ([], []), ([], [])]])

    def test_points_are_turned(self):
        self.same(self.locks.lock("a", L), ["p", "q"])
        self.same([self.locks.position("p"), self.locks.position("q"), self.locks.position("w")], ["right", "right", ""])
        self.same(self.locks.lock("b", [("q", "guard", "right"), ("p", "guard", "left")]), ["p"])
        self.same([self.locks.position("p"), self.locks.position(element="q")], ["left", "right"])
        self.same(self.locks.lock(train="c", demand=tuple(L)), ["p"])

    def test_points_stay_as_they_lie(self):
        self.locks.lock("a", L)
        for element, use, _ in L:
            self.locks.let_go("a", element, use)
        self.same([self.locks.position("p"), self.locks.position("q")], ["right", "right"])
        self.same(self.locks.free, ["e", "f", "l", "p", "q", "u", "w"])

    def test_it_does_not_ask_whether_elements_are_free(self):
        self.locks.lock("a", U)
        self.same(self.locks.lock("c", U), [])
        self.same(self.locks.lock("b", L), ["p", "q"])
        self.same([self.locks.keeper("w"), self.locks.keeper("u"), self.locks.keeper("l")], ["b", "a", "b"])
        self.same(self.locks.guards("q"), ["b", "a", "c"])

    def test_each_lock_counts(self):
        self.locks.lock("a", U)
        self.locks.lock("a", U)
        self.same([self.locks.held_by("a"), self.locks.guards("q")], [["p", "u", "w"], ["a"]])
        self.locks.let_go("a", "u", "hold")
        self.locks.let_go(train="a", element="q", use="guard")
        self.same([self.locks.keeper("u"), self.locks.guards("q")], ["a", ["a"]])
        self.locks.let_go("a", "u", "hold")
        self.same([self.locks.keeper("u"), self.locks.guards("q"), self.locks.held_by("a")], [None, ["a"], ["p", "w"]])
        self.locks.let_go("a", "q", "guard")
        self.same([self.locks.guards("q"), self.locks.guarded_by("a"), self.locks.free], [[], [], ["e", "f", "l", "q", "u"]])

    def test_let_go_of_what_is_not_locked(self):
        self.locks.lock("a", U)
        before = self.everything()
        for train, element, use in (("b", "u", "hold"), ("a", "l", "hold"), ("a", "u", "guard"), ("a", "q", "hold")):
            self.assertIsNone(self.locks.let_go(train, element, use))
            self.same(self.everything(), before)

    def test_hold_and_guard_of_one_element(self):
        self.locks.lock("a", U)
        self.locks.lock("a", [("p", "guard", "left")])
        self.locks.let_go("a", "p", "hold")
        self.same([self.locks.keeper("p"), self.locks.guards("p"), "p" in self.locks.free], [None, ["a"], False])

    def test_pass_on(self):
        self.locks.lock("a", U)
        self.locks.lock("a", U)
        self.locks.lock("c", [("w", "hold", ""), ("q", "guard", "left")])
        self.assertIsNone(self.locks.pass_on("a", "c"))
        self.same([self.locks.held_by("a"), self.locks.guarded_by("a")], [[], []])
        self.same([self.locks.held_by("c"), self.locks.guarded_by("c")], [["p", "u", "w"], ["q"]])
        for left in (["c"], ["c"], []):
            self.locks.let_go("c", "q", "guard")
            self.same(self.locks.guards("q"), left)
        self.locks.let_go("c", "u", "hold")
        self.same(self.locks.keeper("u"), "c")
        self.locks.pass_on(train="c", other="b")
        self.same(self.locks.keeper("u"), "b")
        self.locks.let_go("b", "u", "hold")
        self.same(self.locks.keeper("u"), None)

    def test_pass_on_to_itself_and_of_nothing(self):
        self.locks.lock("a", U)
        before = self.everything()
        self.locks.pass_on("a", "a")
        self.locks.pass_on("b", "a")
        self.same(self.everything(), before)

    def test_against(self):
        self.locks.lock("a", U)
        self.same(self.locks.against(U), [("p", "a"), ("u", "a"), ("w", "a")])
        self.same(self.locks.against(L), [("p", "a"), ("q", "a"), ("w", "a")])
        self.same(self.locks.against(list(reversed(L))), [("p", "a"), ("q", "a"), ("w", "a")])
        self.same(self.locks.against(demand=(("q", "guard", "left"), ("p", "guard", "left"))), [])
        self.same(self.locks.against([("q", "hold", "left"), ("p", "guard", "right")]), [("p", "a")])
        self.same(self.locks.against([]), [])

    def test_against_names_the_first_train_that_disagrees(self):
        self.locks.lock("a", [("q", "guard", "left")])
        self.locks.lock("b", [("q", "guard", "right")])
        self.locks.lock("c", [("q", "guard", "left"), ("w", "hold", "")])
        self.same(self.locks.against([("q", "guard", "left")]), [("q", "b")])
        self.same(self.locks.against([("q", "guard", "right"), ("w", "hold", "")]), [("q", "a"), ("w", "c")])

    def test_the_positions_of_the_locked_demands_count(self):
        # The point lies left, but it is the demand for right that is still locked.
        self.locks.lock("a", [("q", "guard", "right")])
        self.locks.lock("b", [("q", "guard", "left")])
        self.locks.let_go("b", "q", "guard")
        self.same(self.locks.position("q"), "left")
        self.same(self.locks.against([("q", "guard", "left")]), [("q", "a")])
        self.same(self.locks.against([("q", "guard", "right")]), [])

    def test_the_order_is_that_of_the_list(self):
        for order in ("abc", "cba", "bca"):
            locks = Locks(LINK, list(order))
            for train in "abc":
                locks.lock(train, [("p", "hold", "left"), ("q", "guard", "left")])
            self.same([locks.keeper("p"), locks.guards("q"), locks.against([("p", "hold", "left")])],
                      [order[0], list(order), [("p", order[0])]])

    def test_the_list_of_trains_is_changed_behind_the_call(self):
        trains = ["b", "a"]
        locks = Locks(layout=PLACE, trains=trains)
        trains.reverse()
        trains.append("c")
        locks.lock("a", U)
        locks.lock("b", U)
        self.same(locks.guards("q"), ["b", "a"])
        self.same(Locks(PLACE, ("b", "a")).held_by("a"), [])

    def test_the_demand_is_changed_behind_the_call(self):
        demand = list(U)
        self.locks.lock("a", demand)
        demand.clear()
        self.same(self.locks.held_by("a"), ["p", "u", "w"])

    def test_lists_are_new(self):
        self.locks.lock("a", U)
        for call in (lambda: self.locks.guards("q"), lambda: self.locks.held_by("a"), lambda: self.locks.guarded_by("a"),
                     lambda: self.locks.against(U), lambda: self.locks.free, lambda: Locks(PLACE, ["a"]).lock("a", L)):
            self.is_new_list(call)

    def test_twin(self):
        self.locks.lock("a", L)
        twin = self.locks.twin()
        before = self.everything()
        self.same(self.everything(twin), before)
        twin.lock("b", U)
        twin.let_go("a", "l", "hold")
        self.same(self.everything(), before)
        self.same([twin.keeper("w"), twin.keeper("l"), twin.position("p")], ["b", None, "left"])
        after = self.everything(twin)
        self.locks.pass_on("a", "c")
        self.locks.lock("c", [("p", "guard", "right")])
        self.same(self.everything(twin), after)


if __name__ == "__main__":
    unittest.main()
