"""How far the trains of a machine are, and what is locked behind and ahead of them."""

from ringlessday.locks import Locks
from ringlessday.names import is_number


class Heads:
    """A state of a machine: the entered steps, the heads and the locks; it asks nothing and refuses nothing."""

    def __init__(self, plan, by_clear):
        self._plan = plan
        # What locks_by_clear tells of the plan; all states of a machine share it.
        self._by_clear = by_clear
        self.locks = Locks(plan.layout, plan.trains())
        self._entered = {name: 0 for name in plan.trains()}
        # The moves in the last entered step; the way out of the area counts as one more behind the last section.
        self._moves = {name: 0 for name in plan.trains()}

    def twin(self):
        other = Heads(self._plan, self._by_clear)
        other.locks = self.locks.twin()
        other._entered = {name: self._entered[name] for name in self._entered}
        other._moves = {name: self._moves[name] for name in self._moves}
        return other

    def entered_steps(self):
        return tuple(self._entered.values())

    def next_entry(self, train):
        return (train, self._entered[train])

    def has_steps_left(self, train):
        return self._entered[train] < len(self._plan.train_of(train))

    def has_arrived(self, train, step):
        """Whether a train has arrived with a step; any value may be asked for as a step."""
        if not is_number(step, 0, self._entered[train] - 1):
            return False
        return step < self._entered[train] - 1 or self._moves[train] >= self._section_count(train)

    def is_ready(self, train):
        return self._entered[train] == 0 or self.has_arrived(train, self._entered[train] - 1)

    def is_ahead(self, train):
        """Whether there is a move ahead of a train."""
        if self._entered[train] == 0:
            return False
        leaves = self._plan.route_of(self._current(train)).leaves
        return self._moves[train] < self._section_count(train) + (1 if leaves else 0)

    def passed(self, train):
        if self._entered[train] == 0:
            return (0, 0)
        return (self._entered[train], min(self._moves[train], self._section_count(train)))

    def enter(self, train):
        """Makes the next entry; returns the points that are turned."""
        turned = self.locks.lock(train, self._plan.demand_of(self.next_entry(train)))
        other = self._plan.made_of(train)
        if other is not None and self._entered[train] == 0:
            self.locks.pass_on(other, train)
        self._entered[train] = self._entered[train] + 1
        self._moves[train] = 0
        return turned

    def advance(self, train):
        """Makes a move; returns the elements that the train locked and does not lock any longer."""
        ahead = self._locked_by(train)
        self._moves[train] = self._moves[train] + 1
        there = self._current(train) + (self._time(train),)
        for element, use in self._by_clear.get(there, []):
            self.locks.let_go(train, element, use)
        behind = self._locked_by(train)
        return [element for element in ahead if element not in behind]

    def body(self, train):
        found = []
        for name in self._entered:
            for step in range(self._entered[name]):
                for at, section in enumerate(self._plan.route_of((name, step)).names()):
                    if self._is_behind(name, step, at) and self._holder((name, step), section) == train:
                        found.append(section)
        return sorted(found)

    def _current(self, train):
        """The last entry of a train that has made one."""
        return (train, self._entered[train] - 1)

    def _section_count(self, train):
        """The number of sections of the last entry."""
        return len(self._plan.route_of(self._current(train)))

    def _time(self, train):
        """The time after the last entry at which the head is where it is, 0 at the entry itself."""
        step = self._plan.step_of(self._current(train))
        moves = self._moves[train]
        if moves > len(step.times()):
            return step.arrival + self._plan.train_of(train).out
        return step.times()[moves - 1] if moves else 0

    def _is_behind(self, train, step, at):
        """Whether the head has passed a section of a step that is entered."""
        return step < self._entered[train] - 1 or at < self._moves[train]

    def _is_there(self, clear):
        train, step, time = clear
        last = self._entered[train] - 1
        return step < last or (step == last and time <= self._time(train))

    def _holder(self, entry, element):
        """The train that still locks what an entry has locked, or None."""
        name = entry[0]
        clear = self._plan.clear_of(entry, element)
        if clear is None:
            return name
        if self._is_there(clear):
            return None
        return clear[0] if self._entered[clear[0]] else name

    def _locked_by(self, train):
        return sorted(set(self.locks.held_by(train) + self.locks.guarded_by(train)))


def locks_by_clear(plan):
    """For each clear the list of the tuples (element, use) of the locks that are let go by it."""
    found = {}
    for entry in plan.entries():
        for element, use, _ in plan.demand_of(entry):
            clear = plan.clear_of(entry, element)
            if clear is not None:
                found.setdefault(clear, []).append((element, use))
    return found
