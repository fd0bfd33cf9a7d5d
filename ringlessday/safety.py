"""From which standings a day can still end, and rows of entries that lead to where it sticks."""

from ringlessday.errors import InvalidStanding, TooMany
from ringlessday.hinders import Hinders
from ringlessday.names import is_entry, is_number
from ringlessday.values import fresh


class Safety:
    """All standings of a plan that are reached, with what can become of them."""

    MOST = 4000

    def __init__(self, plan):
        hinders = Hinders(plan)
        if hinders.size() > Safety.MOST:
            raise TooMany("standings", Safety.MOST)
        self.plan = plan
        self._hinders = hinders
        self._onward = onward(hinders)
        self._reached = sorted(self._onward)
        self._safe = {}
        # An entry leads to a greater standing, so what is behind a standing is known ahead of it.
        for standing in self._reached[::-1]:
            behind = [self._safe[there] for _, there in self._onward[standing]]
            self._safe[standing] = hinders.is_end(standing) or any(behind)

    def reached(self):
        return list(self._reached)

    def safe(self):
        return [standing for standing in self._reached if self._safe[standing]]

    def doomed(self):
        return [standing for standing in self._reached if not self._safe[standing]]

    def stuck(self):
        return [standing for standing in self._reached if self._hinders.is_stuck(standing)]

    def is_safe(self, standing):
        self._refuse_unreached(standing)
        return self._safe[standing]

    def lead(self, standing):
        self._refuse_unreached(standing)
        if not self._safe[standing]:
            return None
        row = []
        here = standing
        while not self._hinders.is_end(here):
            train, there = [step for step in self._onward[here] if self._safe[step[1]]][0]
            row.append(self._hinders.next_entry(here, train))
            here = there
        return row

    def behind(self, standing):
        self._refuse_unreached(standing)
        found = {standing: True}
        left = [standing]
        while left:
            for _, there in self._onward[left.pop()]:
                if there not in found:
                    found[there] = True
                    left.append(there)
        return sorted(found)

    def bars(self):
        found = []
        for standing in self.safe():
            for train, there in self._onward[standing]:
                if not self._safe[there]:
                    found.append((standing, train))
        return sorted(found)

    @property
    def never_sticks(self):
        return all(list(self._safe.values()))

    def trap(self):
        if self.never_sticks:
            return None
        standing = self.stuck()[0]
        hindrances = self._hinders.hindrances(standing)
        return Trap(self._row_to(standing), hindrances, ring_of(self._hinders, standing))

    def _refuse_unreached(self, value):
        plain = isinstance(value, tuple) and all([is_number(count, 0, Safety.MOST) for count in value])
        if not plain or value not in self._safe:
            raise InvalidStanding(value)

    def _row_to(self, standing):
        """A row of entries that are let and lead from the standing of zeros to a reached one."""
        row = []
        here = standing
        # A standing has only lesser ones ahead of it, so one walk from the greatest down to the least one is enough.
        for ahead in self._reached[::-1]:
            for train, there in self._onward[ahead]:
                if there == here:
                    row = [self._hinders.next_entry(ahead, train)] + row
                    here = ahead
                    break
        return row


class Trap:
    """A row of entries to a stuck standing, with the hindrances there and the ring that they make."""

    def __init__(self, row, hindrances, ring):
        self._row = fresh(row)
        self._hindrances = fresh(hindrances)
        self._ring = fresh(ring)

    def row(self):
        return fresh(self._row)

    def hindrances(self):
        return fresh(self._hindrances)

    def ring(self):
        return fresh(self._ring)

    def holds(self, plan):
        for value in (self._row, self._hindrances, self._ring):
            if not isinstance(value, (list, tuple)):
                return False
        hinders = Hinders(plan)
        standing = led_to(hinders, self._row)
        if standing is None or not hinders.is_stuck(standing):
            return False
        if list(self._hindrances) != hinders.hindrances(standing):
            return False
        return list(self._ring) == ring_of(hinders, standing)


def onward(hinders):
    """For each reached standing the pairs (train, standing behind its next entry) of the entries that are let."""
    found = {}
    left = [hinders.zeros()]
    while left:
        here = left.pop()
        if here not in found:
            found[here] = [(train, hinders.after(here, train)) for train in hinders.lets(here)]
            left.extend([there for _, there in found[here]])
    return found


def led_to(hinders, row):
    """The standing behind a row of any values, None unless they are entries that are let one after another."""
    standing = hinders.zeros()
    for entry in row:
        if not is_entry(entry) or entry[0] not in hinders.lets(standing):
            return None
        if hinders.next_entry(standing, entry[0]) != entry:
            return None
        standing = hinders.after(standing, entry[0])
    return standing


def ring_of(hinders, standing):
    """The trains that are met in following the hindrances of a stuck standing, as a Trap has them."""
    train = hinders.hindrances(standing)[0][0]
    met = []
    while hinders.has_steps_left(standing, train):
        if train in met:
            return met[met.index(train):]
        met.append(train)
        train = hinders.hindrance(standing, train)[2]
    return [train]
