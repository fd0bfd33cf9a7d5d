"""The web of a table: all its ties, with its bars and rings."""

from ringlessday.errors import UnknownEntry
from ringlessday.names import is_entry
from ringlessday.orders import pairs
from ringlessday.ties import bars_of, chain_ties, clear_ties, is_simple_ring, is_tie, ring_through, row_through


class Web:
    """All ties of a table; the day can be run if there is neither a bar nor a ring."""

    def __init__(self, table):
        self.table = table
        plan = table.plan
        found = chain_ties(plan)
        bars = []
        for pair in pairs(plan):
            one = table.first_of(pair)
            later = pair[0] if one == pair[1] else pair[1]
            found.extend(clear_ties(plan, one, later, "clash"))
            bars.extend(bars_of(plan, one, later))
        self._ties = sorted(set(found))
        self._bars = sorted(bars)
        self._into = {entry: [] for entry in plan.entries()}
        self._out_of = {entry: [] for entry in plan.entries()}
        for tie in self._ties:
            self._out_of[tie[0]].append(tie)
            self._into[tie[1]].append(tie)
        self._row = row_through(plan.entries(), self._ties)
        self._ring = ring_through(plan.entries(), self._ties)

    def ties(self):
        return list(self._ties)

    def into(self, entry):
        self._refuse_unknown(entry)
        return list(self._into[entry])

    def out_of(self, entry):
        self._refuse_unknown(entry)
        return list(self._out_of[entry])

    def bars(self):
        return list(self._bars)

    def ring(self):
        return None if self._ring is None else list(self._ring)

    def row(self):
        return list(self._row) if self.is_runnable else None

    @property
    def is_runnable(self):
        return self._bars == [] and self._ring is None

    def is_ring(self, value):
        if not isinstance(value, (list, tuple)) or not all([self.has_tie(tie) for tie in value]):
            return False
        return is_simple_ring(value)

    def has_tie(self, value):
        """Whether any value is a tie of the web."""
        return is_tie(value) and value in self._out_of.get(value[0], [])

    def _refuse_unknown(self, entry):
        if not is_entry(entry) or entry not in self._into:
            raise UnknownEntry(entry)
