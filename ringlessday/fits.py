"""Days that keep wishes, and rings of limits where there is none."""

from ringlessday.errors import InvalidWish, NoDay, UnknownEntry
from ringlessday.names import MOST_MOMENT, is_entry, is_integer, is_number
from ringlessday.sums import ring_back, spread
from ringlessday.ties import goes_round
from ringlessday.values import fresh
from ringlessday.webs import Web


def limits(table, *wishes):
    refuse_bars_and_wishes(table, wishes)
    return limits_of(table, wishes)


def fit(table, *wishes):
    refuse_bars_and_wishes(table, wishes)
    rows = limits_of(table, wishes)
    many = len(table.plan.entries()) + 1
    far, ahead, raised = spread(rows, many)
    if raised:
        return Unfit(table, wishes, ring_back(ahead, raised[0], many))
    # By the limits turned round, the ways to the moment 0 become ways from it.
    back = spread([(row[1], row[0], row[2], row[3]) for row in rows], many)[0]
    return Fit(table, rows, far, back)


class Fit:
    """The days that keep all wishes; fit makes it."""

    def __init__(self, table, rows, far, back):
        self._rows = list(rows)
        self._least = {entry: far[entry] for entry in table.plan.entries()}
        self._greatest = {entry: -back[entry] for entry in table.plan.entries() if entry in back}

    def least(self, entry):
        self._refuse_unknown(entry)
        return self._least[entry]

    def greatest(self, entry):
        self._refuse_unknown(entry)
        return self._greatest.get(entry)

    def earliest(self):
        return {entry: self._least[entry] for entry in self._least}

    def is_day(self, moments):
        if not isinstance(moments, dict) or len(moments) != len(self._least):
            return False
        placed = {None: 0}
        for entry in self._least:
            if entry not in moments or not is_integer(moments[entry]):
                return False
            placed[entry] = moments[entry]
        return all([placed[row[1]] - placed[row[0]] >= row[2] for row in self._rows])

    def __bool__(self):
        return True

    def _refuse_unknown(self, entry):
        if not is_entry(entry) or entry not in self._least:
            raise UnknownEntry(entry)


class Unfit:
    """A ring of limits that no day keeps, or what is given as one."""

    def __init__(self, table, wishes, ring):
        self._table = table
        self._wishes = list(wishes)
        self._ring = fresh(ring)

    def ring(self):
        return fresh(self._ring)

    def holds(self):
        ring = self._ring
        if not isinstance(ring, (list, tuple)):
            return False
        known = limits_of(self._table, self._wishes)
        if not all([is_limit(row) and row in known for row in ring]):
            return False
        return goes_round(ring) and sum([row[2] for row in ring]) > 0

    def __bool__(self):
        return False


def refuse_bars_and_wishes(table, wishes):
    if Web(table).bars() != []:
        raise NoDay()
    for at, wish in enumerate(wishes):
        if not is_wish(table.plan, wish):
            raise InvalidWish(at)


def is_wish(plan, value):
    """Whether any value is a wish with entries of a plan."""
    if not isinstance(value, tuple) or len(value) not in (3, 4):
        return False
    words = ("apart",) if len(value) == 4 else ("latest", "seen")
    if value[0] not in words or not is_number(value[-1], -MOST_MOMENT, MOST_MOMENT):
        return False
    entries = plan.entries()
    return all([is_entry(entry) and entry in entries for entry in value[1:-1]])


def limits_of(table, wishes):
    """All limits, whether the web has a bar or not."""
    plan = table.plan
    found = Web(table).ties()
    for entry in plan.entries():
        found.append((None, entry, plan.step_of(entry).base, "base"))
    for wish in wishes:
        found.extend(limits_of_wish(wish))
    return found


def limits_of_wish(wish):
    if wish[0] == "apart":
        return [(wish[2], wish[1], -wish[3], "wish")]
    latest = (wish[1], None, -wish[2], "wish")
    return [latest] if wish[0] == "latest" else [(None, wish[1], wish[2], "wish"), latest]


def is_limit(value):
    """Whether any value has the form of a limit."""
    if not isinstance(value, tuple) or len(value) != 4 or not isinstance(value[3], str):
        return False
    ends = [end is None or is_entry(end) for end in value[:2]]
    return all(ends) and is_integer(value[2])
