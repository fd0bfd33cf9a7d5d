"""Routes from mark to mark, what they hold and guard, and where they disagree."""

from ringlessday.errors import TooMany
from ringlessday.names import is_name
from ringlessday.sections import Point
from ringlessday.walks import outward, walks

MOST_ROUTES = 24
OTHER_BRANCH = {"left": "right", "right": "left"}


class Route:
    """A walk of a track that ends at a mark; all_routes makes it."""

    def __init__(self, track, start, goal, number, walk):
        self.name = f"{start}.{goal}.{number}"
        self.start = start
        self.goal = goal
        self.leaves = track.mark(goal)[0] == "border"
        self._walk = list(walk)
        self._lengths = [track.section(row[0]).length for row in walk]
        asked = flanks_asked(track, walk)
        self._askers = {point: [row[0] for row in asked[point]] for point in asked}
        self._flanks = sorted([(point, asked[point][0][1]) for point in asked])
        guarded = [(point, "guard", position) for point, position in self._flanks]
        self._demand = sorted(held_part(track, walk) + guarded)

    def sections(self):
        return list(self._walk)

    def names(self):
        return [row[0] for row in self._walk]

    def lengths(self):
        return list(self._lengths)

    def demand(self):
        return list(self._demand)

    def flanks(self):
        return list(self._flanks)

    def askers(self, point):
        if not is_name(point) or point not in self._askers:
            return []
        return list(self._askers[point])

    def __len__(self):
        return len(self._walk)

    def __eq__(self, other):
        if not isinstance(other, Route) or self.name != other.name:
            return False
        return self._walk == other._walk and self._lengths == other._lengths and self._demand == other._demand

    def __repr__(self):
        return f"Route({self.name})"


def all_routes(track):
    """The routes of a track, by their starts, then by their goals, then by their walks."""
    found = []
    for start in [mark[1] for mark in track.marks()]:
        for walk in walks(track, start):
            goal = track.mark_at((walk[-1][0], walk[-1][2]))
            found.append((start, goal, walk))
    if len(found) > MOST_ROUTES:
        raise TooMany("routes", MOST_ROUTES)
    routes = []
    counts = {}
    for start, goal, walk in sorted(found):
        counts[(start, goal)] = counts.get((start, goal), 0) + 1
        routes.append(Route(track, start, goal, counts[(start, goal)], walk))
    return routes


def disagree(one, other):
    """The ascending list of the elements at which two demands disagree."""
    locked = {}
    for element, use, position in other:
        locked.setdefault(element, []).append((use, position))
    found = set()
    for element, use, position in one:
        for its_use, its_position in locked.get(element, []):
            if position != its_position or (use == "hold" and its_use == "hold"):
                found.add(element)
    return sorted(found)


def held_part(track, walk):
    """The part of a demand that a walk holds."""
    found = []
    for name, entry, leaving in walk:
        for other, position in track.section(name).ways(entry):
            if other == leaving:
                found.append((name, "hold", position))
    return found


def flanks_asked(track, walk):
    """For each flank of a walk, the list of the pairs (asking point, position), in the order of the walk."""
    run = [row[0] for row in walk]
    asked = {}
    for name, entry, leaving in walk:
        if isinstance(track.section(name), Point):
            used = leaving if entry == "stem" else entry
            met = outward(track, (name, OTHER_BRANCH[used]))
            if met is not None and met[1] != "stem" and met[0] not in run:
                asked.setdefault(met[0], []).append((name, OTHER_BRANCH[met[1]]))
    return {point: asked[point] for point in asked if are_of_one_mind(asked[point])}


def are_of_one_mind(asked):
    return len(set([position for asker, position in asked])) == 1
