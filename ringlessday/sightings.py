"""What is known of a day of which some moments were seen."""

from ringlessday.delays import are_numbers
from ringlessday.errors import InvalidDelays
from ringlessday.fits import fit
from ringlessday.moments import runnable_web
from ringlessday.names import MOST_MOMENT


class Sightings:
    """The days of a table that have the moments that were seen."""

    def __init__(self, table, seen):
        web = runnable_web(table)
        if not are_numbers(table.plan, seen, MOST_MOMENT):
            raise InvalidDelays(seen)
        self.table = table
        self._web = web
        self._seen = {entry: seen[entry] for entry in seen}
        wishes = [("seen", entry, seen[entry]) for entry in table.plan.entries() if entry in seen]
        found = fit(table, *wishes)
        self._ring = None if found else found.ring()
        self._ranges = ranges_of(table.plan, found) if found else {}

    def seen(self):
        return {entry: self._seen[entry] for entry in self._seen}

    @property
    def agrees(self):
        return self._ring is None

    def ring(self):
        return None if self._ring is None else list(self._ring)

    def range_of(self, entry):
        self.table.plan.place_of(entry)
        return self._ranges.get(entry)

    def surely_late(self):
        return [entry for entry in self.table.plan.entries() if self._lateness(entry) > 0]

    def blamed(self, entry):
        self.table.plan.place_of(entry)
        return max(self._lateness(entry), 0)

    def _lateness(self, entry):
        """By how much an entry is late, at least, in all days that agree; 0 if it was not seen, or none agrees."""
        if entry not in self._seen or not self.agrees:
            return 0
        # What a sighted entry has ahead of it cannot come later and later, so it has greatest moments.
        sums = [self._ranges[tie[0]][1] + tie[2] for tie in self._web.into(entry)]
        return self._seen[entry] - max([self.table.plan.step_of(entry).base] + sums)


def ranges_of(plan, found):
    """For each entry the pair of its least and its greatest moment in the days of a Fit."""
    return {entry: (found.least(entry), found.greatest(entry)) for entry in plan.entries()}
