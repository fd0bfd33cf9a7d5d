"""The locking machine of a plan, which grants or refuses each entry."""

from ringlessday.errors import (DayError, Finished, InvalidDeed, Lacking, Missing, NothingLeft, Refused, UnknownName,
                                Unready)
from ringlessday.heads import Heads, locks_by_clear
from ringlessday.hinders import needs_of

WORDS = ("ask", "move")


class Machine:
    """The machine; it keeps its state ahead of each deed, so that deeds can be taken back."""

    def __init__(self, plan):
        self.plan = plan
        self._states = [Heads(plan, locks_by_clear(plan))]
        self._history = []
        self._busy = False

    def ask(self, train):
        refusal = self.would(train)
        if refusal is not None:
            raise Refused(train, refusal[0], refusal[1])
        return self._begin_deed("ask", train).enter(train)

    def would(self, train):
        self._refuse_unable(train)
        demand = self.plan.demand_of(self._now().next_entry(train))
        against = self._now().locks.against(demand)
        return against[0] if against else None

    def move(self, train):
        self._refuse_unknown(train)
        if not self._now().is_ahead(train):
            raise NothingLeft()
        return self._begin_deed("move", train).advance(train)

    def run(self, train):
        self._refuse_unknown(train)
        found = []
        while self._now().is_ahead(train):
            found.extend(self.move(train))
        return found

    def run_all(self):
        for train in self.plan.trains():
            self.run(train)

    def deeds(self, *deeds):
        for deed in deeds:
            if not is_deed(deed):
                raise InvalidDeed(deed)
        many = len(self._history)
        self._busy = True
        try:
            for word, train in deeds:
                self._do(word, train)
        except (DayError, Missing, NothingLeft):
            self._shorten(many)
            raise
        finally:
            self._busy = False

    def history(self):
        return list(self._history)

    def back(self):
        if not self._history:
            raise NothingLeft()
        self._shorten(len(self._history) - 1)

    def keeper(self, element):
        self._refuse_unknown_element(element)
        return self._now().locks.keeper(element)

    def guards(self, element):
        self._refuse_unknown_element(element)
        return self._now().locks.guards(element)

    def position(self, element):
        self._refuse_unknown_element(element)
        return self._now().locks.position(element)

    def body(self, train):
        self._refuse_unknown(train)
        return self._now().body(train)

    def passed(self, train):
        self._refuse_unknown(train)
        return self._now().passed(train)

    def has_arrived(self, train, step):
        self._refuse_unknown(train)
        return self._now().has_arrived(train, step)

    @property
    def standing(self):
        return self._now().entered_steps()

    @property
    def free(self):
        return self._now().locks.free

    @property
    def is_over(self):
        return self._nothing_is_left()

    @property
    def busy(self):
        return self._busy

    def twin(self):
        other = Machine(self.plan)
        other._take_over(self)
        return other

    def __repr__(self):
        return f"Machine({len(self._history)} deeds)"

    def _now(self):
        return self._states[-1]

    def _nothing_is_left(self):
        now = self._now()
        return not any([now.has_steps_left(train) or now.is_ahead(train) for train in self.plan.trains()])

    def _refuse_unknown(self, train):
        if train not in self.plan:
            raise UnknownName(train)

    def _refuse_unknown_element(self, element):
        if element not in self.plan.layout.element_names():
            raise UnknownName(element)

    def _refuse_unable(self, train):
        """Raises the error of a train that cannot ask, whatever is locked."""
        self._refuse_unknown(train)
        now = self._now()
        if not now.has_steps_left(train):
            raise Finished(train)
        if not now.is_ready(train):
            raise Unready(train)
        for other, step in needs_of(self.plan, now.next_entry(train)):
            if not now.has_arrived(other, step):
                raise Lacking(train, other)

    def _begin_deed(self, word, train):
        """The state that a deed is to change, a copy of the one ahead of it."""
        self._states.append(self._now().twin())
        self._history.append((word, train))
        return self._now()

    def _do(self, word, train):
        if word == "ask":
            self.ask(train)
        else:
            self.move(train)

    def _shorten(self, many):
        """Takes the last deeds back, so that so many are left."""
        del self._history[many:]
        del self._states[many + 1:]

    def _take_over(self, other):
        # A state never changes behind its deed, so both may have the same ones.
        self._states = list(other._states)
        self._history = list(other._history)


def is_deed(value):
    return isinstance(value, tuple) and len(value) == 2 and value[0] in WORDS
