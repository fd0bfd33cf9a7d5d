"""All tables of a plan that can be run, and orders that force others."""

from ringlessday.errors import InvalidTable, TooMany
from ringlessday.orders import Table, pairs
from ringlessday.ties import bars_of, chain_ties, clear_ties, row_through

MOST_PAIRS = 10


def tables(plan):
    """The tables without bar and ring, ascending by their firsts."""
    orders = Orders(plan)
    if len(orders) > MOST_PAIRS:
        raise TooMany("pairs", MOST_PAIRS)
    begun = [[]]
    while begun:
        firsts = begun.pop()
        if orders.are_runnable(firsts):
            if len(firsts) == len(orders):
                yield Table(plan, firsts)
            else:
                # The last one is taken first.
                begun.append(firsts + [True])
                begun.append(firsts + [False])


def forced(plan, known):
    orders = Orders(plan)
    if not are_known(known, len(orders)):
        raise InvalidTable(known)
    given = list(known)
    if not orders.are_runnable(given):
        return None
    changed = True
    while changed:
        changed = False
        for at in range(len(given)):
            possible = orders.possible(given, at) if given[at] is None else [given[at]]
            if possible == []:
                return None
            if given[at] is None and len(possible) == 1:
                given[at] = possible[0]
                changed = True
    return given


def are_known(value, many):
    """Whether any value is a list of so many items, each of them True, False or None."""
    if not isinstance(value, (list, tuple)) or len(value) != many:
        return False
    return all([first is None or isinstance(first, bool) for first in value])


class Orders:
    """The ties of both orders of each pair of a plan, None in the place of the ties of an order that makes a bar."""

    def __init__(self, plan):
        self._entries = plan.entries()
        self._chains = chain_ties(plan)
        self._pairs = pairs(plan)
        self._forward = [ties_of_order(plan, one, other) for one, other in self._pairs]
        self._backward = [ties_of_order(plan, other, one) for one, other in self._pairs]

    def __len__(self):
        return len(self._pairs)

    def are_runnable(self, given):
        """Whether orders, for the first pairs or with None for some, make neither a bar nor a ring."""
        known = self._known(given)
        return known is not None and len(row_through(self._entries, known)) == len(self._entries)

    def possible(self, given, at):
        """The orders that a pair can be given beside others that are runnable."""
        behind = {entry: [] for entry in self._entries}
        for tie in self._known(given):
            behind[tie[0]].append(tie[1])
        found = []
        for first in (False, True):
            ties = self._ties_of(at, first)
            # All these ties end at one entry, so a ring comes back from there by known ties alone.
            if ties is not None and not leads_back(behind, ties):
                found.append(first)
        return found

    def _ties_of(self, at, first):
        return self._forward[at] if first else self._backward[at]

    def _known(self, given):
        """The ties of all reasons that are known with given orders, or None for a bar."""
        found = list(self._chains)
        for at, first in enumerate(given):
            if first is not None:
                ties = self._ties_of(at, first)
                if ties is None:
                    return None
                found.extend(ties)
        return found


def ties_of_order(plan, one, later):
    return clear_ties(plan, one, later, "clash") if bars_of(plan, one, later) == [] else None


def leads_back(behind, ties):
    """Whether known ties lead from the end of one of some ties to its beginning."""
    for tie in ties:
        found = {tie[1]: True}
        left = [tie[1]]
        while left:
            for entry in behind[left.pop()]:
                if entry not in found:
                    found[entry] = True
                    left.append(entry)
        if tie[0] in found:
            return True
    return False
