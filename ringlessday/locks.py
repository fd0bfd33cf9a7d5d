"""The locks of all elements, and the positions of the points."""


class Locks:
    """Which trains hold and guard which elements."""

    def __init__(self, layout, trains):
        self._layout = layout
        # The demands' rows that a train has locked, in the order in which it locked them.
        self._rows = {train: [] for train in trains}
        self._positions = {name: "left" if layout.is_point(name) else "" for name in layout.element_names()}

    def lock(self, train, demand):
        turned = set()
        for element, use, position in demand:
            if self._positions[element] != position:
                turned.add(element)
            self._positions[element] = position
            self._rows[train].append((element, use, position))
        return sorted(turned)

    def let_go(self, train, element, use):
        rows = self._rows[train]
        found = [at for at, row in enumerate(rows) if row[0] == element and row[1] == use]
        if found:
            del rows[found[0]]

    def pass_on(self, train, other):
        passed = self._rows[train]
        self._rows[train] = []
        self._rows[other] = self._rows[other] + passed

    def keeper(self, element):
        found = self._lockers(element, "hold")
        return found[0] if found else None

    def guards(self, element):
        return self._lockers(element, "guard")

    def position(self, element):
        return self._positions[element]

    def held_by(self, train):
        return self._locked_by(train, "hold")

    def guarded_by(self, train):
        return self._locked_by(train, "guard")

    def against(self, demand):
        """The pairs (element, first train that has it locked against the demand), ascending."""
        found = {}
        for train in self._rows:
            for row in demand:
                if row[0] not in found and any([is_against(locked, row) for locked in self._rows[train]]):
                    found[row[0]] = train
        return sorted(found.items())

    @property
    def free(self):
        locked = set([row[0] for rows in self._rows.values() for row in rows])
        return [element for element in self._positions if element not in locked]

    def twin(self):
        other = Locks(self._layout, list(self._rows))
        other._rows = {train: list(self._rows[train]) for train in self._rows}
        other._positions = {name: self._positions[name] for name in self._positions}
        return other

    def _lockers(self, element, use):
        """The trains that lock an element with a use, in their order."""
        return [train for train in self._rows if element in self._locked_by(train, use)]

    def _locked_by(self, train, use):
        return sorted(set([row[0] for row in self._rows[train] if row[1] == use]))


def is_against(locked, row):
    """Whether a locked row of a demand disagrees with a row of another demand."""
    if locked[0] != row[0]:
        return False
    return locked[2] != row[2] or (locked[1] == "hold" and row[1] == "hold")
