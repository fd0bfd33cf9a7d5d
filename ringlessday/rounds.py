"""Plans that come again and again, and the periods with which they can."""

from ringlessday.errors import InvalidHeights, InvalidPeriod, NeverCleared, NoPeriod, TooShort
from ringlessday.names import is_entry, is_integer, is_number
from ringlessday.orders import pairs
from ringlessday.ratios import Ratio, as_ratio
from ringlessday.sums import ring_back, spread
from ringlessday.ties import chain_pairs, chain_ties, clear_ties, is_simple_ring

MOST_HEIGHT = 6


class RoundWeb:
    """All turning ties of a plan with the heights of its pairs."""

    def __init__(self, plan, heights):
        known = pairs(plan)
        if not are_heights(heights, len(known)):
            raise InvalidHeights(heights)
        refuse_never_cleared(plan)
        self.plan = plan
        self._heights = list(heights)
        found = turning(chain_ties(plan), 0) + again_ties(plan)
        for pair, height in zip(known, heights):
            found.extend(turning(clear_ties(plan, pair[0], pair[1], "clash"), height))
            found.extend(turning(clear_ties(plan, pair[1], pair[0], "clash"), 1 - height))
        self._ties = sorted(set(found))

    def heights(self):
        return list(self._heights)

    def ties(self):
        return list(self._ties)

    def bar(self):
        # By these weights exactly the rings with a height of 0 or less have a sum above 0: no ring has more ties than
        # there are entries.
        most = len(self.plan.entries()) + 1
        return self._ring_by([(tie, 1 - tie[3] * most) for tie in self._ties])

    def least(self):
        ring = self.critical()
        return Ratio(0) if ring is None else ratio_of(ring)

    def critical(self):
        if self.bar() is not None:
            raise NoPeriod()
        found = None
        ring = self._ring_beyond(Ratio(0))
        while ring is not None:
            found = ring
            # Each ring that is found now asks for a longer period than the one ahead.
            ring = self._ring_beyond(ratio_of(ring))
        return found

    def fits(self, period):
        return self.ring_above(period) is None

    def moments(self, period):
        if not self.fits(period):
            raise TooShort(period)
        ratio = as_ratio(period)
        far = spread(self._rows_by(weights_by(self._ties, ratio)), self._place_count())[0]
        return {entry: Ratio(far[entry], ratio.bottom) for entry in self.plan.entries()}

    def ring_above(self, period):
        if not is_period(period):
            raise InvalidPeriod(period)
        return self._ring_beyond(as_ratio(period))

    def is_ring(self, value):
        if not isinstance(value, (list, tuple)):
            return False
        known = {tie: True for tie in self._ties}
        return all([is_turning_tie(tie) and tie in known for tie in value]) and is_simple_ring(value)

    def _place_count(self):
        """The number of the entries and of the moment 0."""
        return len(self.plan.entries()) + 1

    def _rows_by(self, weighted):
        """The limits of spread for pairs (tie, weight); each entry comes at the moment 0 at the earliest."""
        begun = [(None, entry, 0, None) for entry in self.plan.entries()]
        return begun + [(tie[0], tie[1], weight, tie) for tie, weight in weighted]

    def _ring_by(self, weighted):
        """A ring with a sum above 0, for pairs (tie, weight), or None."""
        many = self._place_count()
        _, ahead, raised = spread(self._rows_by(weighted), many)
        return [row[3] for row in ring_back(ahead, raised[0], many)] if raised else None

    def _ring_beyond(self, ratio):
        """A ring with a sum above its height times a ratio, or None."""
        return self._ring_by(weights_by(self._ties, ratio))


def are_heights(value, many):
    """Whether any value is a list of so many heights."""
    if not isinstance(value, (list, tuple)) or len(value) != many:
        return False
    return all([is_number(height, -MOST_HEIGHT, MOST_HEIGHT) for height in value])


def refuse_never_cleared(plan):
    """Raises the error of the first entry with an element that is never cleared."""
    for entry in plan.entries():
        for element, _, _ in plan.demand_of(entry):
            if plan.clear_of(entry, element) is None:
                raise NeverCleared(entry[0], entry[1], element)


def turning(ties, height):
    """Turning ties with one height for some ties."""
    return [(one, other, weight, height, reason) for one, other, weight, reason in ties]


def again_ties(plan):
    """The turning ties from a round to the next one, of each entry and of those of one chain."""
    found = []
    for entry in plan.entries():
        for element, use, _ in plan.demand_of(entry):
            if use == "hold":
                clear = plan.clear_of(entry, element)
                found.append((clear[:2], entry, clear[2], 1, "again"))
    for entry, later in chain_pairs(plan):
        found.extend(turning(clear_ties(plan, later, entry, "again"), 1))
    return found


def weights_by(ties, ratio):
    """The pairs of turning ties and their weights for a period, both times the lower number of the period."""
    return [(tie, tie[2] * ratio.bottom - tie[3] * ratio.top) for tie in ties]


def ratio_of(ring):
    """The ratio of sum to height of a ring."""
    return Ratio(sum([tie[2] for tie in ring]), sum([tie[3] for tie in ring]))


def is_period(value):
    """Whether any value is a ratio or a number above 0."""
    if isinstance(value, Ratio):
        return value.top > 0
    return is_integer(value) and value > 0


def is_turning_tie(value):
    """Whether any value has the form of a turning tie."""
    if not isinstance(value, tuple) or len(value) != 5 or not is_entry(value[0]) or not is_entry(value[1]):
        return False
    return is_integer(value[2]) and is_integer(value[3]) and isinstance(value[4], str)
