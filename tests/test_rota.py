import random
import unittest
from itertools import combinations

from helpers import ANYTHING, Case
from ringlessday.errors import InvalidJourney, InvalidNumber, UnknownName
from ringlessday.rota import Rota

# From p to q and back, in time and too late.
DAY = [("one", "p", 0, "q", 10), ("two", "q", 15, "p", 20), ("three", "q", 14, "r", 30), ("four", "p", 25, "q", 40)]


def name_of(number):
    return "abcdefghijklmnopqrstuvwxyz"[number % 26] + "xyz"[number // 26]


def some_journeys(chance, many, places="pqr"):
    found = []
    for number in range(many):
        start = chance.randrange(30)
        found.append((name_of(number), chance.choice(places), start, chance.choice(places), start + chance.randint(1, 12)))
    return chance.sample(found, many)


def follows(journeys, change):
    """All pairs (earlier, later) of names of which the second one can follow the first one."""
    return [(one[0], other[0]) for one in journeys for other in journeys
            if one[3] == other[1] and other[2] >= one[4] + change]


def most_links(edges):
    """The greatest number of links, by trying all."""
    if not edges:
        return 0
    (one, other), rest = edges[0], edges[1:]
    taken = 1 + most_links([edge for edge in rest if edge[0] != one and edge[1] != other])
    # Without this edge, and so with some other one at its first name or with none.
    return max(taken, most_links(rest)) if any(edge[0] == one or edge[1] == other for edge in rest) else taken


class FollowTest(Case):
    def test_at_the_edge_of_the_change(self):
        for change, told in ((0, True), (4, True), (5, True), (6, False)):
            self.same(Rota(DAY, change).can_follow("two", "one"), told)
        for change, told in ((0, True), (4, True), (5, False)):
            self.same(Rota(DAY, change=change).can_follow(later="three", earlier="one"), told)

    def test_places(self):
        rota = Rota(DAY)
        self.same([rota.can_follow("four", "one"), rota.can_follow("four", "two"), rota.can_follow("four", "three"),
                   rota.can_follow("one", "one"), rota.can_follow("one", "two"), rota.can_follow("two", "three")],
                  [False, True, False, False, False, False])
        ring = Rota([("x", "p", 5, "p", 9), ("y", "p", 9, "p", 10)])
        self.same([ring.can_follow("y", "x"), ring.can_follow("x", "y"), ring.can_follow("x", "x")], [True, False, False])

    def test_unknown_names(self):
        rota = Rota(DAY)
        for value in ANYTHING + ["five", "One", ("one",), ["one"]]:
            self.refused(UnknownName(value), rota.can_follow, value, "nobody")
            self.refused(UnknownName(value), rota.can_follow, "one", value)
        self.refused(UnknownName("one"), Rota([]).can_follow, "one", None)


class LinksTest(Case):
    def test_the_day(self):
        rota = Rota(DAY, 5)
        self.same([rota.links(), rota.sets(), rota.fewest, rota.cover()],
                  [[("one", "two"), ("two", "four")], [["one", "two", "four"], ["three"]], 2, (["one", "two"], [])])
        self.same(rota.journeys(), DAY)

    def test_a_link_that_must_be_changed_for_more(self):
        # If the first one took the nearest one that follows, the second one would have none.
        journeys = [("a", "p", 0, "q", 5), ("b", "p", 1, "q", 9), ("c", "q", 10, "p", 12), ("d", "q", 7, "p", 8)]
        self.same([Rota(journeys).links(), Rota(journeys).fewest], [[("a", "d"), ("b", "c")], 2])
        self.same(Rota(journeys).sets(), [["a", "d"], ["b", "c"]])

    def test_small_rotas(self):
        told = set()
        for seed in range(300):
            chance = random.Random(seed)
            journeys = some_journeys(chance, chance.randrange(8), chance.choice(["p", "pq", "pqr"]))
            change = chance.choice([0, 0, 1, 3])
            self.look_at(Rota(journeys, change), journeys, follows(journeys, change), told)
        self.assertTrue(told >= {0, 1, 2, 3, 4, 5})

    def look_at(self, rota, journeys, edges, told):
        links = rota.links()
        self.same(len(links), most_links(edges))
        told.add(len(links))
        self.is_right(rota, journeys, edges)

    def is_right(self, rota, journeys, edges):
        """Links, sets and cover go together; a cover with as many names as links shows that both are best."""
        links, sets, cover = rota.links(), rota.sets(), rota.cover()
        self.assertTrue(all(link in edges for link in links))
        self.same(links, sorted(links))
        for side in (0, 1):
            self.same(len({link[side] for link in links}), len(links))
        self.same([rota.fewest, len(sets)], [len(journeys) - len(links)] * 2)
        self.same(sorted(name for row in sets for name in row), sorted(journey[0] for journey in journeys))
        self.same(sorted(pair for row in sets for pair in zip(row, row[1:])), links)
        self.same([row[0] for row in sets], sorted(row[0] for row in sets))
        self.assertIs(type(cover), tuple)
        self.assertTrue(all(type(names) is list and names == sorted(set(names)) for names in cover))
        self.same(len(cover[0]) + len(cover[1]), len(links))
        self.assertTrue(all(one in cover[0] or other in cover[1] for one, other in edges))
        self.assertIs(rota.is_cover(cover), True)

    def test_no_cover_is_smaller(self):
        for seed in range(60):
            chance = random.Random(seed)
            journeys = some_journeys(chance, 5)
            rota = Rota(journeys)
            names = [journey[0] for journey in journeys]
            both = [(0, name) for name in names] + [(1, name) for name in names]
            for many in range(len(rota.links())):
                for chosen in combinations(both, many):
                    value = tuple([name for side, name in chosen if side == at] for at in (0, 1))
                    self.same(rota.is_cover(value), False)

    def test_forty_journeys(self):
        self.same(Rota.MOST, 40)
        for seed in range(12):
            chance = random.Random(seed)
            journeys = some_journeys(chance, 40, chance.choice(["pq", "pqrst", "pqrstuvw"]))
            self.is_right(Rota(journeys, seed % 3), journeys, follows(journeys, seed % 3))
        # All in one set, the last one first in the list.
        row = [(name_of(number), "p", number, "p", number + 1) for number in range(40)]
        self.same(Rota(row[::-1]).sets(), [[journey[0] for journey in row]])
        self.refused(InvalidJourney(-1), Rota, row + [("last", "p", 50, "p", 51)])

    def test_no_journeys(self):
        for rota in (Rota([]), Rota(()), Rota(journeys=[], change=0)):
            self.same([rota.journeys(), rota.links(), rota.sets(), rota.fewest, rota.cover(), rota.is_cover(([], []))],
                      [[], [], [], 0, ([], []), True])

    def test_what_is_passed_and_told_is_copied(self):
        journeys = list(DAY)
        rota = Rota(journeys)
        journeys.clear()
        self.same(rota.journeys(), DAY)
        for call in (rota.journeys, rota.links, rota.sets):
            self.is_new_list(call)
        rota.sets()[0].append("spoilt")
        rota.cover()[0].append("spoilt")
        rota.cover()[1].append("spoilt")
        self.same([Rota(DAY).sets(), Rota(DAY).cover()], [rota.sets(), rota.cover()])


class CoverTest(Case):
    def test_both_ways(self):
        # one before two, one before three, two before four
        rota = Rota(DAY)
        names = ["one", "two", "three", "four"]
        for value in ((["one", "two"], []), (["one"], ["four"]), ([], ["two", "three", "four"]), (names, names),
                      (["two"], ["three", "two"]), (("one", "two"), ()), (("two", "one"), ["three"])):
            self.same(rota.is_cover(value), True)
        for value in ((["one"], []), ([], ["two", "four"]), (["two"], ["one"]), ([], []), ([], ["one", "two"])):
            self.same(rota.is_cover(value), False)
        self.same(rota.is_cover(value=(["one", "two"], [])), True)

    def test_other_values(self):
        rota = Rota(DAY)
        right = ["one", "two"]
        self.same([rota.is_cover((right, [])), rota.is_cover((right, ["five"])), rota.is_cover((right + ["nobody"], []))],
                  [True, False, False])
        for value in ANYTHING + [[right, []], (right,), (right, [], []), (right, None), (None, right), ("one", []),
                                 (right, "two"), (right, 5), (["one", "two", "two"], []), (right, ["one", "one"]),
                                 (["one", "two", None], []), (right, [True]), (right, [5]), (right, ["Two"]), (right, [""]),
                                 (right, [["two"]]), (right, [("two",)]), (right, ["toolong"]), ({"one": 1, "two": 2}, [])]:
            self.same(rota.is_cover(value), False)

    def test_without_anything_to_cover(self):
        rota = Rota(DAY[:1])
        self.same([rota.is_cover(([], [])), rota.is_cover((["one"], [])), rota.is_cover(([], [])[:1])], [True, True, False])


class JourneysTest(Case):
    def test_each_wrong_kind_at_its_index(self):
        wrong = [value for value in ANYTHING] + [
            list(DAY[1]), DAY[1][:4], (*DAY[1], 5), ("Two", *DAY[1][1:]), ("", *DAY[1][1:]), (None, *DAY[1][1:]),
            ("two", "Q", 15, "p", 20), ("two", None, 15, "p", 20), ("two", "q", -1, "p", 20), ("two", "q", None, "p", 20),
            ("two", "q", "15", "p", 20), ("two", "q", False, "p", 20), ("two", "q", 15, "P", 20), ("two", "q", 15, 7, 20),
            ("two", "q", 15, "p", 15), ("two", "q", 15, "p", 14), ("two", "q", 15, "p", 10 ** 9 + 1), ("two", "q", 0, "p", True),
            ("two", "q", 15, "p", None), ("two", "q", 15, "p", (20,)), ("two", ["q"], 15, "p", 20), (("two",), "q", 15, "p", 20)]
        for value in wrong:
            self.refused(InvalidJourney(0), Rota, [value])
            self.refused(InvalidJourney(2), Rota, [DAY[0], DAY[2], value, None])
            self.refused(InvalidJourney(2), Rota, (DAY[0], DAY[2], value), -1)

    def test_doubled_names(self):
        self.refused(InvalidJourney(1), Rota, [DAY[0], DAY[0]])
        self.refused(InvalidJourney(3), Rota, [*DAY[:3], ("two", "x", 1, "y", 2)])
        self.same(len(Rota([DAY[0], ("onex", *DAY[0][1:])]).journeys()), 2)

    def test_both_edges(self):
        edge = [("a", "p", 0, "p", 1), ("b", "p", 10 ** 9 - 1, "q", 10 ** 9)]
        self.same(Rota(edge, 10 ** 6).links(), [("a", "b")])
        self.refused(InvalidJourney(0), Rota, [("b", "p", 10 ** 9, "q", 10 ** 9 + 1)])

    def test_no_list(self):
        for value in ANYTHING + [{"a": 1}, "journeys", DAY[0]]:
            if not isinstance(value, (list, tuple)):
                self.refused(InvalidJourney(-1), Rota, value, -1)
        self.refused(InvalidJourney(0), Rota, DAY[0])
        self.refused(InvalidJourney(-1), Rota, [None] * 41)
        self.refused(InvalidJourney(0), Rota, [None] * 40)

    def test_change(self):
        for value in [value for value in ANYTHING if type(value) is not int or value < 0] + [-1, 10 ** 6 + 1, 10 ** 9]:
            self.refused(InvalidNumber(value), Rota, DAY, value)
            self.refused(InvalidNumber(value), Rota, DAY, change=value)
        self.same([Rota(DAY, 10 ** 6).fewest, Rota(DAY, 0).fewest], [4, 2])


if __name__ == "__main__":
    unittest.main()
