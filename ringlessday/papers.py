"""Papers that show how late all entries can become."""

from ringlessday.lateness import latest_numbers, refuse_bounds
from ringlessday.moments import runnable_web
from ringlessday.names import is_entry, is_integer, is_number
from ringlessday.values import fresh, fresh_within
from ringlessday.webs import Web


class Paper:
    """For each entry its latest moments with no late entry, with one, and so on, or what is given as this."""

    def __init__(self, table, bounds, numbers):
        self._table = table
        self._bounds = {entry: bounds[entry] for entry in bounds}
        self._numbers = fresh_dict(numbers)

    def numbers(self):
        return fresh_dict(self._numbers)

    def holds(self):
        web = Web(self._table)
        if not web.is_runnable or not are_rows(self._table.plan, self._numbers):
            return False
        kept = [self._keeps_bases(entry) for entry in self._numbers]
        return all(kept + [self._keeps_tie(tie) for tie in web.ties()])

    def number(self, entry, late):
        row = self._numbers.get(entry) if isinstance(self._numbers, dict) and is_entry(entry) else None
        if not isinstance(row, (list, tuple)) or not is_number(late, 0, len(row) - 1):
            return None
        return row[late] if is_integer(row[late]) else None

    def _bound(self, entry):
        return self._bounds.get(entry, 0)

    def _keeps_bases(self, entry):
        """Whether the numbers of an entry keep to what its base, its bound and the numbers ahead ask for."""
        row = self._numbers[entry]
        base = self._table.plan.step_of(entry).base
        if any([number < base for number in row]):
            return False
        return all([later >= number and later >= base + self._bound(entry) for number, later in zip(row, row[1:])])

    def _keeps_tie(self, tie):
        """Whether the numbers of the second entry of a tie keep to those of the first one."""
        ahead = [number + tie[2] for number in self._numbers[tie[0]]]
        behind = self._numbers[tie[1]]
        if any([number < least for number, least in zip(behind, ahead)]):
            return False
        return all([number >= least + self._bound(tie[1]) for number, least in zip(behind[1:], ahead)])


def paper(table, bounds, *, late=1):
    web = runnable_web(table)
    refuse_bounds(table.plan, bounds, late)
    return Paper(table, bounds, latest_numbers(web, bounds, late, {}))


def are_rows(plan, value):
    """Whether any value is a dict from the entries of a plan to lists of numbers of one length, at least 1."""
    entries = plan.entries()
    if not isinstance(value, dict) or len(value) != len(entries):
        return False
    if not all([is_entry(entry) and entry in entries for entry in value]):
        return False
    rows = list(value.values())
    # What is no list may have no length, so the kinds of all rows are looked at ahead of their lengths.
    if not all([are_numbers(row) for row in rows]):
        return False
    return all([len(row) == len(rows[0]) for row in rows])


def are_numbers(value):
    if not isinstance(value, (list, tuple)) or len(value) == 0:
        return False
    return all([is_integer(number) for number in value])


def fresh_dict(value):
    """A new dict, with new lists within it, for a dict; any other value as fresh gives it."""
    if not isinstance(value, dict):
        return fresh(value)
    return {key: fresh_within(value[key]) for key in value}
