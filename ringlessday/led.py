"""Days that are led by hand, entry by entry."""

from ringlessday.errors import (Barred, Doomed, Finished, InvalidNumber, InvalidTable, Lacking, NothingLeft, Refused,
                                UnknownName)
from ringlessday.hinders import Hinders
from ringlessday.lateness import latest_numbers, refuse_bounds
from ringlessday.names import MOST_TIME, is_number
from ringlessday.orders import Table, pairs
from ringlessday.safety import Safety
from ringlessday.ties import chain_ties, clear_ties
from ringlessday.webs import Web


class LedDay:
    """The entries of a plan that are made so far, with their moments."""

    def __init__(self, plan, *, guarded=True):
        self._safety = Safety(plan)
        self._hinders = Hinders(plan)
        self.plan = plan
        self.guarded = guarded
        self._pairs = pairs(plan)
        self._chain_ties = chain_ties(plan)
        # Each step is the list of the pairs (entry, moment) that it made.
        self._done = []
        self._undone = []

    def enter(self, train, *, late=0):
        self._refuse_unknown(train)
        if not is_number(late, 0, MOST_TIME):
            raise InvalidNumber(late)
        found = self._made_by([train], late)
        self._add_step(found)
        return found[0][1]

    def enter_all(self, *trains):
        found = self._made_by(trains, 0)
        if found:
            self._add_step(found)
        return [moment for _, moment in found]

    def preview(self, *trains):
        return [moment for _, moment in self._made_by(trains, 0)]

    def made(self):
        return [pair for step in self._done for pair in step]

    def moment(self, entry):
        self.plan.place_of(entry)
        return self._moments_made().get(entry)

    def orders(self):
        places = {entry: at for at, (entry, _) in enumerate(self.made())}
        return [order_by(places, one, other) for one, other in self._pairs]

    def still(self):
        behind = self._safety.behind(self.standing)
        ways = [standing for standing in behind if self._safety.is_safe(standing)]
        found = []
        for pair, order in zip(self._pairs, self.orders()):
            found.append(self._possible(ways, pair) if order is None else order)
        return found

    def choices(self):
        standing = self.standing
        return [train for train in self._hinders.lets(standing) if self._is_allowed(standing, train)]

    @property
    def standing(self):
        return standing_of(self.plan, [entry for step in self._done for entry, _ in step])

    @property
    def safe_now(self):
        return self._safety.is_safe(self.standing)

    @property
    def is_over(self):
        return sum(list(self.standing)) == len(self.plan.entries())

    def goes_on(self, table):
        if not isinstance(table, Table) or table.plan != self.plan:
            return False
        kept = [order in (None, first) for order, first in zip(self.orders(), table.firsts())]
        return all(kept) and Web(table).is_runnable

    def outlook(self, table, bounds=None, *, late=0):
        if not self.goes_on(table):
            raise InvalidTable(table)
        given = {} if bounds is None else bounds
        refuse_bounds(self.plan, given, late)
        numbers = latest_numbers(Web(table), given, late, self._moments_made())
        return {entry: numbers[entry][late] for entry in numbers}

    def undo(self):
        if not self._done:
            raise NothingLeft()
        self._undone.append(self._done.pop())

    def redo(self):
        if not self._undone:
            raise NothingLeft()
        self._done.append(self._undone.pop())

    def history(self):
        return (len(self._done), len(self._undone))

    def twin(self):
        other = LedDay(self.plan, guarded=self.guarded)
        # What a step made never changes, so both may have the same steps.
        other._done = list(self._done)
        other._undone = list(self._undone)
        return other

    def course(self):
        ahead = self.lead()
        if ahead is None:
            raise Doomed()
        return Table.of_row(self.plan, [entry for entry, _ in self.made()] + ahead)

    def lead(self):
        """The lead from the standing to the end, None if it is doomed."""
        return self._safety.lead(self.standing)

    def __repr__(self):
        return f"LedDay({len(self.made())} entries)"

    def _refuse_unknown(self, train):
        if train not in self.plan:
            raise UnknownName(train)

    def _moments_made(self):
        return {entry: moment for entry, moment in self.made()}

    def _add_step(self, found):
        self._done.append(found)
        self._undone = []

    def _made_by(self, trains, late):
        """The pairs (entry, moment) of the entries that trains would make one after another, each with a delay."""
        moments = self._moments_made()
        found = []
        for train in trains:
            self._refuse_unknown(train)
            standing = standing_of(self.plan, list(moments))
            self._refuse_entry(standing, train)
            entry = self._hinders.next_entry(standing, train)
            moments[entry] = self._moment_behind(moments, entry) + late
            found.append((entry, moments[entry]))
        return found

    def _refuse_entry(self, standing, train):
        if not self._hinders.has_steps_left(standing, train):
            raise Finished(train)
        hindered = self._hinders.hindrance(standing, train)
        if hindered is not None and hindered[1] is None:
            raise Lacking(train, hindered[2])
        if hindered is not None:
            raise Refused(train, hindered[1], hindered[2])
        if not self._is_allowed(standing, train):
            raise Barred(train, self._hinders.next_entry(standing, train)[1])

    def _is_allowed(self, standing, train):
        """Whether the day does not refuse an entry that is let."""
        return not self.guarded or self._safety.is_safe(self._hinders.after(standing, train))

    def _moment_behind(self, moments, entry):
        """The moment at which an entry is made behind others that have their moments."""
        ties = [tie for tie in self._chain_ties if tie[1] == entry]
        for one, other in self._pairs:
            if entry in (one, other):
                ahead = other if entry == one else one
                if ahead in moments:
                    ties.extend(clear_ties(self.plan, ahead, entry, "clash"))
        return max([self.plan.step_of(entry).base] + [moments[tie[0]] + tie[2] for tie in ties])

    def _possible(self, ways, pair):
        """Which orders of a pair there are on the ways to the end; None for both, the empty string for none."""
        one, other = pair
        first = any([self._is_between(standing, one, other) for standing in ways])
        second = any([self._is_between(standing, other, one) for standing in ways])
        if first and second:
            return None
        if first or second:
            return first
        return ""

    def _is_between(self, standing, one, other):
        """Whether one entry is made in a standing, and another one is not."""
        is_made = self._hinders.is_made(standing, one[0], one[1])
        return is_made and not self._hinders.is_made(standing, other[0], other[1])


def standing_of(plan, entries):
    """The standing in which these entries are made."""
    return tuple([len([entry for entry in entries if entry[0] == name]) for name in plan.trains()])


def order_by(places, one, other):
    """Whether one entry of a pair was made ahead of the other one, None if neither is made."""
    if one not in places and other not in places:
        return None
    return other not in places or (one in places and places[one] < places[other])
