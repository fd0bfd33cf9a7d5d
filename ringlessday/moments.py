"""The moments of all entries of a day, with delays and without."""

from ringlessday.delays import are_delays
from ringlessday.errors import InvalidDelays, NoDay, UnknownEntry
from ringlessday.names import is_entry
from ringlessday.webs import Web


class Moments:
    """The least moments of a table with given delays."""

    def __init__(self, table, delays=None):
        web = runnable_web(table)
        given = {} if delays is None else delays
        if not are_delays(table.plan, given):
            raise InvalidDelays(delays)
        self.table = table
        self._web = web
        self._delays = {entry: given.get(entry, 0) for entry in table.plan.entries()}
        self._moments = moments_with(web, self._delays)

    def moment(self, entry):
        self._refuse_unknown(entry)
        return self._moments[entry]

    def moments(self):
        return {entry: self._moments[entry] for entry in self._moments}

    def way(self, entry):
        self._refuse_unknown(entry)
        found = []
        here = entry
        while self._moments[here] > self._base(here) + self._delays[here]:
            due = self._moments[here] - self._delays[here]
            tie = [tie for tie in self._web.into(here) if self._moments[tie[0]] + tie[2] == due][0]
            found.append(tie)
            here = tie[0]
        return found[::-1]

    def slack(self, tie):
        if not self._web.has_tie(tie):
            raise UnknownEntry(tie)
        return self._moments[tie[1]] - self._moments[tie[0]] - tie[2]

    @property
    def last(self):
        return max(list(self._moments.values()), default=0)

    def _base(self, entry):
        return self.table.plan.step_of(entry).base

    def _refuse_unknown(self, entry):
        if not is_entry(entry) or entry not in self._moments:
            raise UnknownEntry(entry)


def longest(table, one, other):
    web = runnable_web(table)
    for entry in (one, other):
        table.plan.place_of(entry)
    return longest_from(web, one).get(other)


def longest_from(web, one):
    """The greatest sums of weights of ways from an entry, for the entries to which a way leads from there."""
    far = {one: 0}
    for entry in web.row():
        for tie in web.into(entry):
            if tie[0] in far:
                far[entry] = max(far.get(entry, 0), far[tie[0]] + tie[2])
    return far


def moments_with(web, delays):
    """The moments of all entries of a web that can be run, in their order, with delays that are not looked at."""
    plan = web.table.plan
    found = {}
    for entry in web.row():
        sums = [found[tie[0]] + tie[2] for tie in web.into(entry)]
        found[entry] = max([plan.step_of(entry).base] + sums) + delays.get(entry, 0)
    return {entry: found[entry] for entry in plan.entries()}


def runnable_web(table):
    """The web of a table without bar and ring."""
    web = Web(table)
    if not web.is_runnable:
        raise NoDay()
    return web
