"""Which trains, turns and waits fit a layout and each other."""

from ringlessday.errors import InvalidTurn, InvalidWait, MisplacedStep
from ringlessday.names import MOST_TIME, is_name, is_number


def refuse_misplaced(layout, train):
    """Raises the error of a train whose steps do not fit the layout."""
    goal = None
    for at, step in enumerate(train.steps()):
        route = layout.route_of(step.route)
        if len(step.times()) != len(route) or (at > 0 and route.start != goal):
            raise MisplacedStep(train.name, at)
        # No step begins behind one that leaves, also where a border has the name of the start.
        goal = None if route.leaves else route.goal
    if goal is not None and train.length > route.lengths()[-1]:
        raise MisplacedStep(train.name, len(train) - 1)


def refuse_turns(layout, trains, turns):
    """Raises the error of the first wrong one of any turns; trains are a dict from names, in order."""
    if not isinstance(turns, (list, tuple)):
        raise InvalidTurn(-1)
    made = []
    used = []
    for at, turn in enumerate(turns):
        if not is_turn(layout, trains, turn) or turn[0] in made or turn[1] in used:
            raise InvalidTurn(at)
        made.append(turn[0])
        used.append(turn[1])


def is_turn(layout, trains, value):
    """Whether any value is a turn of two trains, whatever the other turns are."""
    if not isinstance(value, tuple) or len(value) != 3:
        return False
    name, other, time = value
    if not is_train(trains, name) or not is_train(trains, other) or not is_number(time, 0, MOST_TIME):
        return False
    order = list(trains)
    if order.index(other) >= order.index(name) or trains[name].length != trains[other].length:
        return False
    return first_route(layout, trains[name]).start in signals_beside(layout, last_route(layout, trains[other]))


def is_train(trains, value):
    return is_name(value) and value in trains


def first_route(layout, train):
    return layout.route_of(train[0].route)


def last_route(layout, train):
    return layout.route_of(train[len(train) - 1].route)


def signals_beside(layout, route):
    """The signals at the two sides of a stand that the route uses; none if the route leaves."""
    if route.leaves:
        return []
    track = layout.track()
    name, entry, leaving = route.sections()[-1]
    names = [track.mark_at((name, entry)), track.mark_at((name, leaving))]
    return [mark for mark in names if mark is not None and track.mark(mark)[0] == "signal"]


def refuse_starts(layout, trains, made):
    """Raises the error of the first train that is not among the made ones and does not begin at a border."""
    track = layout.track()
    for name, train in trains.items():
        if name not in made and track.mark(first_route(layout, train).start)[0] != "border":
            raise MisplacedStep(name, 0)


def refuse_waits(trains, roots, waits):
    """Raises the error of the first wrong one of any waits; trains of one root are in one chain."""
    if not isinstance(waits, (list, tuple)):
        raise InvalidWait(-1)
    for at, wait in enumerate(waits):
        if not is_wait(trains, roots, wait):
            raise InvalidWait(at)


def is_wait(trains, roots, value):
    if not isinstance(value, tuple) or len(value) != 5:
        return False
    name, step, other, its_step, time = value
    if not is_step(trains, name, step) or not is_step(trains, other, its_step):
        return False
    return is_number(time, 0, MOST_TIME) and roots[name] != roots[other]


def is_step(trains, name, step):
    return is_train(trains, name) and is_number(step, 0, len(trains[name]) - 1)
