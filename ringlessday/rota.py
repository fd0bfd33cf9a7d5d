"""Journeys of sets of carriages, and rotas with the fewest sets."""

from ringlessday.errors import InvalidJourney, InvalidNumber, UnknownName
from ringlessday.names import MOST_MOMENT, MOST_TIME, is_name, is_number


class Rota:
    """Journeys with a greatest list of links between them."""

    MOST = 40

    def __init__(self, journeys, change=0):
        refuse_journeys(journeys)
        if not is_number(change, 0, MOST_TIME):
            raise InvalidNumber(change)
        self._journeys = {journey[0]: journey for journey in journeys}
        self._change = change
        # For each journey those that can follow it.
        self._onward = {name: self._followers(name) for name in self._journeys}
        self._ahead = greatest_matching(self._onward)

    def journeys(self):
        return list(self._journeys.values())

    def can_follow(self, later, earlier):
        for name in (later, earlier):
            if not is_name(name) or name not in self._journeys:
                raise UnknownName(name)
        return later in self._onward[earlier]

    def links(self):
        return sorted([(self._ahead[later], later) for later in self._ahead])

    def sets(self):
        behind = {earlier: later for earlier, later in self.links()}
        found = []
        for name in sorted(self._journeys):
            if name not in self._ahead:
                row = [name]
                while row[-1] in behind:
                    row.append(behind[row[-1]])
                found.append(row)
        return found

    @property
    def fewest(self):
        return len(self._journeys) - len(self._ahead)

    def cover(self):
        earlier, later = reached_by_turns(self._onward, self._ahead)
        return (sorted([name for name in self._journeys if name not in earlier]), sorted(later))

    def is_cover(self, value):
        if not isinstance(value, tuple) or len(value) != 2 or not all([self._are_names(names) for names in value]):
            return False
        first, second = value
        for name in self._onward:
            if name not in first and not all([later in second for later in self._onward[name]]):
                return False
        return True

    def _are_names(self, value):
        """Whether any value is a list of different names of journeys."""
        if not isinstance(value, (list, tuple)):
            return False
        return all([is_name(name) and name in self._journeys for name in value]) and len(set(value)) == len(value)

    def _followers(self, name):
        found = []
        for other, place, start, _, _ in self._journeys.values():
            if place == self._journeys[name][3] and start >= self._journeys[name][4] + self._change:
                found.append(other)
        return found


def refuse_journeys(journeys):
    """Raises the error of any value that is no list of journeys with different names."""
    if not isinstance(journeys, (list, tuple)) or len(journeys) > Rota.MOST:
        raise InvalidJourney(-1)
    names = []
    for at, journey in enumerate(journeys):
        if not is_journey(journey) or journey[0] in names:
            raise InvalidJourney(at)
        names.append(journey[0])


def is_journey(value):
    if not isinstance(value, tuple) or len(value) != 5:
        return False
    name, place, start, goal, end = value
    if not is_name(name) or not is_name(place) or not is_name(goal):
        return False
    return is_number(start, 0, MOST_MOMENT) and is_number(end, 0, MOST_MOMENT) and start < end


def greatest_matching(onward):
    """A greatest matching: for each later journey that is linked the earlier one."""
    ahead = {}
    for name in onward:
        give_later(onward, ahead, name, {})
    return ahead


def give_later(onward, ahead, name, tried):
    """Links a journey with a later one, where others can be linked anew; whether this succeeds."""
    for later in onward[name]:
        if later not in tried:
            tried[later] = True
            if later not in ahead or give_later(onward, ahead, ahead[later], tried):
                ahead[later] = name
                return True
    return False


def reached_by_turns(onward, ahead):
    """The earlier and the later journeys, as dicts, to which one comes from the earlier ones without a link.

    One goes by turns to a later journey that can follow, and back by a link. No later one without a link is met: it
    would make one link more. So the earlier ones that are not met and the later ones that are met are as many as
    the links.
    """
    linked = {ahead[later]: True for later in ahead}
    earlier = {name: True for name in onward if name not in linked}
    later_ones = {}
    left = list(earlier)
    while left:
        for later in onward[left.pop()]:
            if later not in later_ones:
                later_ones[later] = True
                earlier[ahead[later]] = True
                left.append(ahead[later])
    return earlier, later_ones
