"""Layouts and plans for the tests that go over many plans."""

import random

from helpers import PASSING_PLACE, track_of
from ringlessday.errors import DayError
from ringlessday.layouts import Layout
from ringlessday.orders import Table
from ringlessday.plans import Plan
from ringlessday.safety import Safety
from ringlessday.standings import after, lets
from ringlessday.tracktext import read_track
from ringlessday.trains import Step, Train

PLACE = Layout(read_track(PASSING_PLACE))
# Signals in both directions between all sections but the outer ones.
LINE = Layout(track_of("plain x 20; plain y 30; plain z 40; plain v 20; joint v.a z.b; joint x.b y.a; joint y.b z.a;"
                       "border west x.a; border east v.b; signal ey y.b; signal ez z.b; signal wy y.a; signal wz z.a"))
# A point p and its flank q; trains may stand on p, whose signals stand at its own sides.
STAND_ON_POINT = Layout(track_of("plain w 20; point p 9; point q 5; plain e 20; plain r 20; joint e.a p.left;"
                                 "joint p.right q.left; joint p.stem w.b; joint q.stem r.a; border west w.a;"
                                 "border east e.b; border north r.b; signal s p.left; signal t p.stem"))
# Two tracks side by side with a link between them, so that each point is a flank of the other one.
LINK = Layout(track_of("plain a 20; point p 5; plain b 20; plain c 20; point q 5; plain d 20; joint a.b p.stem;"
                       "joint b.a p.left; joint c.b q.left; joint d.a q.stem; joint p.right q.right; border nw a.a;"
                       "border ne b.b; border sw c.a; border se d.b; signal n a.b; signal m d.a"))
# Two lines over a crossing, with a stand behind it on one of them.
CROSS = Layout(track_of("plain a 15; plain b 15; crossing x 5; plain c 30; plain d 15; joint a.b x.a; joint b.b x.c;"
                        "joint c.a x.b; joint d.a x.d; border wa a.a; border wb b.a; border ec c.b; border ed d.b;"
                        "signal sa a.b; signal sb b.b; signal sc c.a"))
# Short sections behind a long one, so that a train that is made there clears it with a later step only.
SHORT = Layout(track_of("plain x 20; plain y 30; plain z 10; plain o 10; plain v 20; joint o.a z.b; joint o.b v.a;"
                        "joint x.b y.a; joint y.b z.a; border west x.a; border east v.b; signal ey y.b; signal ez z.b;"
                        "signal eo o.b; signal wy y.a; signal wz z.a; signal wo o.a"))
# A loop that is entered and left over one point.
LOOP = Layout(track_of("plain w 20; point p 5; plain k 50; joint k.a p.left; joint k.b p.right; joint p.stem w.b;"
                       "border west w.a; signal s k.b; signal t k.a"))
LAYOUTS = [PLACE, LINE, STAND_ON_POINT, LINK, CROSS, SHORT, LOOP]


def some_train(chance, layout, name, starts, length, most_steps):
    """A train that begins at one of some marks, or None."""
    steps = []
    here = chance.choice(starts)
    for _ in range(chance.randint(1, most_steps)):
        routes = [layout.route_of(route) for route in layout.routes_from(here)]
        if not routes:
            break
        route = chance.choice(routes)
        times = sorted(chance.sample(range(1, 4 * len(route) + 3), len(route)))
        public = chance.choice([None, None, chance.randrange(30)])
        steps.append(Step(route.name, times, stop=chance.choice([0, 0, chance.randrange(9)]), public=public))
        here = route.goal
        if route.leaves:
            break
    return Train(name, length, *steps, out=chance.randint(1, 6)) if steps else None


def some_turn(chance, plan, name, most_steps):
    """The pair (train, turn) of a train that may be made of one of a plan, or None."""
    free = [other for other in plan.trains() if plan.made_into(other) is None]
    if not free:
        return None
    other = chance.choice(free)
    track = plan.layout.track()
    section, entry, leaving = plan.route_of((other, len(plan.train_of(other)) - 1)).sections()[-1]
    marks = [track.mark_at((section, side)) for side in (entry, leaving)]
    starts = [mark for mark in marks if mark is not None]
    train = some_train(chance, plan.layout, name, starts, plan.train_of(other).length, most_steps)
    return (train, (name, other, chance.randrange(9))) if train else None


def some_waits(chance, plan, most):
    waits = []
    for _ in range(chance.randrange(most + 1)):
        one, other = chance.choice(plan.entries()), chance.choice(plan.entries())
        waits.append((*one, *other, chance.randrange(9)))
    return waits


def grown(plan, train, turns=()):
    """A plan with one train more, or the plan itself if it is refused so."""
    trains = [plan.train_of(name) for name in plan.trains()]
    try:
        return Plan(plan.layout, *trains, train, turns=plan.turns() + list(turns))
    except DayError:
        return plan


def some_plan(chance, layout=None, most_trains=4, most_steps=3, most_waits=2):
    """A plan of trains at random, some of them made of others, some waiting for others."""
    layout = layout or chance.choice(LAYOUTS)
    plan = Plan(layout)
    borders = [mark[1] for mark in layout.track().marks() if mark[0] == "border"]
    names = chance.sample("abcdefghij", 10)
    for _ in range(chance.randint(1, 3 * most_trains)):
        if len(plan) == most_trains:
            break
        turn = some_turn(chance, plan, names[-1], most_steps) if chance.random() < 0.6 else None
        if turn:
            plan = grown(plan, turn[0], [turn[1]])
        else:
            train = some_train(chance, layout, names[-1], borders, chance.choice([3, 8, 15, 25, 40, 60]), most_steps)
            plan = grown(plan, train) if train else plan
        if names[-1] in plan:
            names.pop()
    return with_waits(chance, plan, most_waits)


def with_waits(chance, plan, most):
    trains = [plan.train_of(name) for name in plan.trains()]
    try:
        return Plan(plan.layout, *trains, turns=plan.turns(), waits=some_waits(chance, plan, most) if trains else [])
    except DayError:
        return plan


def some_row(chance, plan):
    """A row of a plan at random, whether the machine plays it or not."""
    left = plan.entries()
    row = []
    while left:
        entry = chance.choice(left)
        ahead = [other for other in left if plan.chain(other[0]) == plan.chain(entry[0])][0]
        row.append(ahead)
        left.remove(ahead)
    return row


def some_led_row(chance, plan):
    """A row of entries at random that the machine plays, or None if no row leads to the end."""
    safety = Safety(plan)
    standing = (0,) * len(plan)
    if not safety.is_safe(standing):
        return None
    row = []
    while len(row) < len(plan.entries()):
        trains = [train for train in lets(plan, standing) if safety.is_safe(after(plan, standing, train))]
        train = chance.choice(trains)
        row.append((train, standing[plan.trains().index(train)]))
        standing = after(plan, standing, train)
    return row


def led_days(many, most_entries=36, **more):
    """Tables without bar and ring of plans at random that have no more entries."""
    found = []
    for seed in range(many):
        chance = random.Random(seed)
        plan = some_plan(chance, **more)
        row = some_led_row(chance, plan) if 1 <= len(plan.entries()) <= most_entries else None
        if row:
            found.append(Table.of_row(plan, row))
    return found
