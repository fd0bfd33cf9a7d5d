"""Pairs of entries that cannot stand together, and tables that tell which one of each goes first."""

from ringlessday.errors import InvalidNumber, InvalidRow, InvalidTable, UnknownEntry
from ringlessday.names import is_entry, is_number
from ringlessday.records import is_begun_row


def pairs(plan):
    roots = {name: plan.chain(name)[0] for name in plan.trains()}
    entries = plan.entries()
    routes = {entry: plan.step_of(entry).route for entry in entries}
    found = []
    for at, one in enumerate(entries):
        for other in entries[at + 1:]:
            if roots[one[0]] != roots[other[0]] and plan.layout.clash(routes[one], routes[other]):
                found.append((one, other))
    return found


def is_row(plan, value):
    if not is_begun_row(plan, value) or len(value) != len(plan.entries()):
        return False
    places = {entry: at for at, entry in enumerate(value)}
    for name, other, _ in plan.turns():
        if places[(name, 0)] < places[(other, len(plan.train_of(other)) - 1)]:
            return False
    return True


class Table:
    """For each pair of a plan which entry goes first."""

    def __init__(self, plan, firsts):
        self.plan = plan
        self._places = {pair: at for at, pair in enumerate(pairs(plan))}
        if not are_orders(firsts, len(self._places)):
            raise InvalidTable(firsts)
        self._firsts = list(firsts)

    @classmethod
    def of_row(cls, plan, row):
        if not is_row(plan, row):
            raise InvalidRow(row)
        places = {entry: at for at, entry in enumerate(row)}
        return cls(plan, [places[one] < places[other] for one, other in pairs(plan)])

    def firsts(self):
        return list(self._firsts)

    def is_ahead(self, one, other):
        if self._is_pair((one, other)):
            return self._firsts[self._places[(one, other)]]
        if self._is_pair((other, one)):
            return not self._firsts[self._places[(other, one)]]
        return None

    def turned(self, at):
        if not is_number(at, 0, len(self._firsts) - 1):
            raise InvalidNumber(at)
        firsts = self.firsts()
        firsts[at] = not firsts[at]
        return Table(self.plan, firsts)

    def first_of(self, pair):
        if not self._is_pair(pair):
            raise UnknownEntry(pair)
        return pair[0] if self._firsts[self._places[pair]] else pair[1]

    def __len__(self):
        return len(self._firsts)

    def __bool__(self):
        return True

    def __eq__(self, other):
        return isinstance(other, Table) and self.plan == other.plan and self._firsts == other._firsts

    def __repr__(self):
        return f"Table({len(self._firsts)} pairs)"

    def _is_pair(self, value):
        """Whether any value is a pair of the plan."""
        if not isinstance(value, tuple) or len(value) != 2:
            return False
        return is_entry(value[0]) and is_entry(value[1]) and value in self._places


def are_orders(value, many):
    """Whether any value is a list of so many items, each of them True or False."""
    if not isinstance(value, (list, tuple)) or len(value) != many:
        return False
    return all([isinstance(first, bool) for first in value])
