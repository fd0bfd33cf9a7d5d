"""What hinders the next entries of a plan in its standings."""

from ringlessday.ties import shared


class Hinders:
    """A plan with what has been found out about its standings; nothing is found out twice."""

    def __init__(self, plan):
        self.plan = plan
        self._names = plan.trains()
        self._places = {name: at for at, name in enumerate(self._names)}
        self._steps = [len(plan.train_of(name)) for name in self._names]
        self._needs = {entry: needs_of(plan, entry) for entry in plan.entries()}
        self._known_overlaps = {}
        self._ends_well = {}

    def zeros(self):
        return (0,) * len(self._names)

    def size(self):
        """The number of all standings."""
        total = 1
        for steps in self._steps:
            total = total * (steps + 1)
        return total

    def is_end(self, standing):
        return list(standing) == self._steps

    def has_steps_left(self, standing, name):
        at = self._places[name]
        return standing[at] < self._steps[at]

    def next_entry(self, standing, name):
        return (name, standing[self._places[name]])

    def after(self, standing, name):
        """The standing behind the next entry of a train."""
        at = self._places[name]
        return standing[:at] + (standing[at] + 1,) + standing[at + 1:]

    def is_made(self, standing, name, step):
        return standing[self._places[name]] > step

    def is_locked(self, standing, clear):
        """Whether what has this clear is still locked, if it was locked at all."""
        return clear is None or not self.is_made(standing, clear[0], clear[1])

    def lets(self, standing):
        """The trains, in order, whose next entry is let."""
        found = []
        for name in self._names:
            if self.has_steps_left(standing, name) and self._hindered(standing, name) is None:
                found.append(name)
        return found

    def hindrance(self, standing, name):
        """The hindrance of a train with steps left, or None."""
        hindered = self._hindered(standing, name)
        if hindered is None:
            return None
        element, trains = hindered
        # Of several trains that lock the element, the first one in the order of the plan counts.
        first = min([self._places[train] for train in trains])
        return (name, element, self._names[first])

    def hindrances(self, standing):
        """Those of all trains with steps left, in order; None for one that is not hindered."""
        return [self.hindrance(standing, name) for name in self._names if self.has_steps_left(standing, name)]

    def is_stuck(self, standing):
        return not self.is_end(standing) and self.lets(standing) == []

    def ends_well(self, standing):
        """Whether entries that are let lead from a standing to the end."""
        if standing not in self._ends_well:
            found = self.is_end(standing)
            for name in self.lets(standing):
                found = found or self.ends_well(self.after(standing, name))
            self._ends_well[standing] = found
        return self._ends_well[standing]

    def _hindered(self, standing, name):
        """The pair (element, trains) that hinders the next entry of a train, the element None if it lacks a train."""
        later = self.next_entry(standing, name)
        for other, step in self._needs[later]:
            if not self.is_made(standing, other, step):
                return (None, [other])
        barred = {}
        for other in self._names:
            if other != name:
                for step in range(standing[self._places[other]]):
                    for element, clear in self._overlaps_of((other, step), later):
                        if self.is_locked(standing, clear):
                            barred.setdefault(element, []).append(self._locker(standing, other, clear))
        if not barred:
            return None
        first = min(barred)
        return (first, barred[first])

    def _locker(self, standing, name, clear):
        """The train that locks what a train has locked: itself, or the one that is made of it and has begun."""
        if clear is None or not self.is_made(standing, clear[0], 0):
            return name
        return clear[0]

    def _overlaps_of(self, one, later):
        """The pairs (element, clear for the first entry) at which two entries disagree."""
        if (one, later) not in self._known_overlaps:
            found = [(element, self.plan.clear_of(one, element)) for element in shared(self.plan, one, later)]
            self._known_overlaps[(one, later)] = found
        return self._known_overlaps[(one, later)]


def needs_of(plan, entry):
    """The pairs (train, step) with which others must have arrived ahead of an entry."""
    name, at = entry
    other = plan.made_of(name)
    found = [] if other is None else [(other, len(plan.train_of(other)) - 1)]
    return found + [(wait[2], wait[3]) for wait in plan.waits() if wait[:2] == entry]
