"""The ties between the entries of a plan, and rows and rings of ties."""

from ringlessday.names import is_entry, is_integer


def chain_ties(plan):
    """The ties of the reasons that hold whatever the orders are: run, turn, wait and own."""
    found = own_ties(plan)
    for name in plan.trains():
        for at, step in enumerate(plan.train_of(name).steps()[:-1]):
            found.append(((name, at), (name, at + 1), step.arrival + step.stop, "run"))
    for name, other, time in plan.turns():
        last_one = (other, len(plan.train_of(other)) - 1)
        found.append((last_one, (name, 0), plan.step_of(last_one).arrival + time, "turn"))
    for name, at, other, its, time in plan.waits():
        found.append(((other, its), (name, at), plan.step_of((other, its)).arrival + time, "wait"))
    return found


def own_ties(plan):
    found = []
    for entry, later in chain_pairs(plan):
        found.extend(clear_ties(plan, entry, later, "own"))
    return found


def chain_pairs(plan):
    """All pairs of entries of one chain, the one that goes ahead first."""
    found = []
    for name in plan.trains():
        chain = plan.chain(name)
        ahead = [entry for link in chain[:chain.index(name)] for entry in entries_of(plan, link)]
        for later in entries_of(plan, name):
            found.extend([(entry, later) for entry in ahead])
            ahead.append(later)
    return found


def entries_of(plan, name):
    return [(name, at) for at in range(len(plan.train_of(name)))]


def shared(plan, one, other):
    """The elements at which two entries of a plan disagree."""
    return plan.layout.disagreements(plan.step_of(one).route, plan.step_of(other).route)


def clear_ties(plan, one, later, reason):
    """The ties from what clears the first entry to a later one; an element that is never cleared gives none."""
    clears = [plan.clear_of(one, element) for element in shared(plan, one, later)]
    return [(clear[:2], later, clear[2], reason) for clear in clears if clear is not None]


def bars_of(plan, one, later):
    """The bars that the order of two entries makes."""
    return [(one, later, element) for element in shared(plan, one, later) if plan.clear_of(one, element) is None]


def is_tie(value):
    """Whether any value has the form of a tie."""
    if not isinstance(value, tuple) or len(value) != 4 or not is_entry(value[0]) or not is_entry(value[1]):
        return False
    return is_integer(value[2]) and isinstance(value[3], str)


def goes_round(ties):
    """Whether each of some ties begins where the one ahead ends, and the first one where the last one ends."""
    begun = [tie[0] for tie in ties]
    ended = [tie[1] for tie in ties]
    return begun[1:] + begun[:1] == ended


def is_simple_ring(ties):
    """Whether some ties go round and none begins where another one begins; no ties at all are no ring."""
    return len(ties) > 0 and goes_round(ties) and len(set([tie[0] for tie in ties])) == len(ties)


def row_through(entries, ties):
    """The row that always takes the first entry all of whose ties begin at entries that it has, as far as it goes."""
    onward = {entry: [] for entry in entries}
    missing = {entry: 0 for entry in entries}
    for tie in ties:
        onward[tie[0]].append(tie[1])
        missing[tie[1]] = missing[tie[1]] + 1
    row = []
    left = list(entries)
    ready = [entry for entry in left if missing[entry] == 0]
    while ready:
        row.append(ready[0])
        left.remove(ready[0])
        for entry in onward[ready[0]]:
            missing[entry] = missing[entry] - 1
        ready = [entry for entry in left if missing[entry] == 0]
    return row


def ring_through(entries, ties):
    """A ring of ties, or None."""
    row = row_through(entries, ties)
    left = [entry for entry in entries if entry not in row]
    if left == []:
        return None
    # Each entry that is left has a tie from another one that is left, so the way back goes round in the end.
    back = {tie[1]: tie for tie in ties if tie[0] in left}
    met = []
    here = left[0]
    while here not in met:
        met.append(here)
        here = back[here][0]
    return [back[entry] for entry in met[met.index(here):]][::-1]
