"""Layouts: tracks that stand still, with their routes."""

from ringlessday.errors import UnknownName
from ringlessday.routes import all_routes, disagree
from ringlessday.sections import Point


class Layout:
    """A track as it stands when the layout is made; what happens to the track later means nothing here."""

    MOST = 24

    def __init__(self, track):
        self._track = track.twin()
        self._routes = {route.name: route for route in all_routes(self._track)}
        # Plans ask for these again and again.
        self._clashes = {name: self._clashes_of(name) for name in self._routes}

    def track(self):
        return self._track.twin()

    def routes(self):
        return list(self._routes.values())

    def route_of(self, name):
        if name not in self:
            raise UnknownName(name)
        return self._routes[name]

    def routes_from(self, mark):
        start = self._track.mark(mark)[1]
        return [route.name for route in self._routes.values() if route.start == start]

    def element_names(self):
        return sorted([section.name for section in self._track.sections()])

    def is_point(self, element):
        return element in self._track and isinstance(self._track.section(element), Point)

    def disagreements(self, one, other):
        return list(self._clashes[self.route_of(one).name][self.route_of(other).name])

    def clash(self, one, other):
        return self.disagreements(one, other) != []

    def __contains__(self, x):
        return isinstance(x, str) and x in self._routes

    def __len__(self):
        return len(self._routes)

    def __bool__(self):
        return True

    def __eq__(self, other):
        return isinstance(other, Layout) and self._track == other._track

    def __repr__(self):
        return f"Layout({len(self._routes)} routes)"

    def _clashes_of(self, name):
        """For each route the elements at which it disagrees with the one of a name."""
        demand = self._routes[name].demand()
        return {route.name: disagree(demand, route.demand()) for route in self._routes.values()}
