"""A locking machine that never lets a day stick."""

from ringlessday.errors import Barred, DayError
from ringlessday.machine import Machine
from ringlessday.safety import Safety


class GuardedMachine(Machine):
    """A machine that refuses entries into doomed standings, too."""

    def __init__(self, plan):
        super().__init__(plan)
        self._safety = Safety(plan)

    def ask(self, train):
        return super().ask(train)

    def would(self, train):
        refusal = super().would(train)
        if refusal is None:
            self._refuse_doomed(train)
        return refusal

    def choices(self):
        return [train for train in self.plan.trains() if self._may_ask(train)]

    def move(self, train):
        return super().move(train)

    def run(self, train):
        return super().run(train)

    def run_all(self):
        super().run_all()

    def deeds(self, *deeds):
        super().deeds(*deeds)

    def history(self):
        return super().history()

    def back(self):
        super().back()

    def keeper(self, element):
        return super().keeper(element)

    def guards(self, element):
        return super().guards(element)

    def position(self, element):
        return super().position(element)

    def body(self, train):
        return super().body(train)

    def passed(self, train):
        return super().passed(train)

    def has_arrived(self, train, step):
        return super().has_arrived(train, step)

    @property
    def standing(self):
        return self._now().entered_steps()

    @property
    def free(self):
        return self._now().locks.free

    @property
    def is_over(self):
        return self._nothing_is_left()

    @property
    def busy(self):
        return self._busy

    def twin(self):
        other = GuardedMachine(self.plan)
        other._take_over(self)
        return other

    def __repr__(self):
        return f"Machine({len(self._history)} deeds)"

    def _refuse_doomed(self, train):
        """Raises the error of an entry that the machine grants and that leads into a doomed standing."""
        entry = self._now().next_entry(train)
        behind = list(self.standing)
        behind[self.plan.trains().index(train)] = entry[1] + 1
        if not self._safety.is_safe(tuple(behind)):
            raise Barred(train, entry[1])

    def _may_ask(self, train):
        try:
            return self.would(train) is None
        except DayError:
            return False
