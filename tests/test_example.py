"""The whole of "A worked example", as it is printed in the document."""

import doctest
import unittest

EXAMPLE = r'''
>>> from ringlessday.tracktext import read_track
>>> from ringlessday.layouts import Layout
>>> ground = "plain w 20\npoint p 5\nplain u 30\nplain l 30\npoint q 5\nplain e 20\nplain f 20\n"
>>> joints = "joint e.a q.stem\njoint e.b f.a\njoint l.a p.right\njoint l.b q.right\njoint p.left u.a\njoint p.stem w.b\njoint q.left u.b\n"
>>> marks = "border west w.a\nborder east f.b\nsignal su u.b\nsignal sl l.b\nsignal tu u.a\nsignal tl l.a\nsignal m e.b\nsignal n f.a\n"
>>> layout = Layout(read_track(ground + joints + marks))
>>> [route.name for route in layout.routes()]
['east.n.1', 'm.east.1', 'n.tl.1', 'n.tu.1', 'sl.m.1', 'su.m.1', 'tl.west.1', 'tu.west.1', 'west.sl.1', 'west.su.1']
>>> [layout.route_of("west.su.1").demand(), layout.disagreements("west.su.1", "n.tl.1"), layout.disagreements("west.su.1", "n.tu.1")]
[[('p', 'hold', 'left'), ('q', 'guard', 'left'), ('u', 'hold', ''), ('w', 'hold', '')], ['p', 'q'], ['u']]
>>> from ringlessday.trains import Step, Train
>>> from ringlessday.plans import Plan
>>> a = Train("a", 15, Step("west.su.1", [4, 5, 11]), Step("su.m.1", [1, 5]), Step("m.east.1", [4]), out=3)
>>> b = Train("b", 15, Step("east.n.1", [4]), Step("n.tu.1", [4, 5, 11]), Step("tu.west.1", [1, 5]), out=3)
>>> plan = Plan(layout, a, b)
>>> [plan.clear_of(("a", 0), "w"), plan.clear_of(("a", 0), "q"), plan.clear_of(("a", 0), "u"), plan.clear_of(("a", 2), "f"), plan.clear_of(("b", 1), "e")]
[('a', 0, 11), ('a', 0, 11), ('a', 1, 5), ('a', 2, 7), ('b', 1, 11)]
>>> from ringlessday.safety import Safety
>>> safety = Safety(plan)
>>> [safety.never_sticks, safety.doomed(), safety.stuck(), safety.bars()]
[False, [(1, 1), (2, 1)], [(2, 1)], [((0, 1), 'a'), ((1, 0), 'b'), ((2, 0), 'b')]]
>>> trap = safety.trap()
>>> [trap.holds(plan), trap.hindrances(), trap.ring()]
[True, [('a', 'f', 'b'), ('b', 'e', 'a')], ['a', 'b']]
>>> from ringlessday.orders import Table, pairs
>>> from ringlessday.tables import forced, tables
>>> from ringlessday.moments import Moments
>>> from ringlessday.lateness import latest
>>> [pairs(plan), [table.firsts() for table in tables(plan)], forced(plan, [None, None, None, True])]
[[(('a', 0), ('b', 1)), (('a', 0), ('b', 2)), (('a', 1), ('b', 1)), (('a', 2), ('b', 0))], [[False, False, False, False], [True, True, True, True]], [True, True, True, True]]
>>> table = Table(plan, [True, True, True, True])
>>> moments = Moments(table)
>>> [[moments.moment(entry) for entry in plan.entries()], latest(table, ("b", 2), {("a", 1): 10, ("b", 0): 4}), latest(table, ("b", 2), {("a", 1): 10, ("b", 0): 4}, late=2)]
[[0, 11, 16, 23, 27, 38], 48, 52]
>>> from ringlessday.desk import Desk
>>> desk = Desk(plan)
>>> [desk("enter a"), desk("enter b"), desk("choices"), desk("row"), desk("least b.2"), desk("still"), desk("enter x"), desk("names")]
['a.0 at 0', 'error Barred', 'a', 'a.1 a.2 b.0 b.1 b.2', '38', 'first first first first', 'error UnknownName', 'unknown']
'''


class ExampleTest(unittest.TestCase):
    def test_the_example_comes_out_as_printed(self):
        example = doctest.DocTestParser().get_doctest(EXAMPLE, {}, "example", None, 0)
        printed = []
        result = doctest.DocTestRunner().run(example, out=printed.append)
        self.assertEqual((result.failed, result.attempted), (0, EXAMPLE.count(">>> ")), "".join(printed))


if __name__ == "__main__":
    unittest.main()
