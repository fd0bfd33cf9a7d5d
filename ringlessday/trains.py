"""Trains and their steps."""

from ringlessday.errors import InvalidName, InvalidNumber, InvalidStep, InvalidTimes, TooMany, UnknownEntry
from ringlessday.names import MOST_TIME, is_name, is_number

MOST_TIMES = 24


class Step:
    """The run of a train over one route."""

    def __init__(self, route, times, *, stop=0, public=None):
        if not are_times(times):
            raise InvalidTimes(times)
        if not is_number(stop, 0, MOST_TIME):
            raise InvalidNumber(stop)
        if public is not None and not is_number(public, 0, MOST_TIME):
            raise InvalidNumber(public)
        self.route = route
        self.stop = stop
        self.public = public
        self._times = list(times)

    def times(self):
        return list(self._times)

    @property
    def arrival(self):
        return self._times[-1]

    @property
    def base(self):
        return 0 if self.public is None else self.public

    def __eq__(self, other):
        if not isinstance(other, Step) or self.route != other.route:
            return False
        return self._times == other._times and self.stop == other.stop and self.public == other.public

    def __repr__(self):
        return f"Step({self.route})"


class Train:
    """A train with its steps, in order."""

    STEPS = 6
    LENGTH = 60

    def __init__(self, name, length, *steps, out=1):
        if not is_name(name):
            raise InvalidName(name)
        if not is_number(length, 1, Train.LENGTH):
            raise InvalidNumber(length)
        refuse_steps(steps)
        if not is_number(out, 1, MOST_TIME):
            raise InvalidNumber(out)
        self.name = name
        self.length = length
        self.out = out
        self._steps = list(steps)

    def steps(self):
        return list(self._steps)

    def longer(self, by):
        return Train(self.name, self.length + by, *self._steps, out=self.out)

    def __getitem__(self, at):
        if not is_number(at, 0, len(self._steps) - 1):
            raise UnknownEntry((self.name, at))
        return self._steps[at]

    def __iter__(self):
        raise TypeError("a train is not iterated over; its steps() are")

    def __len__(self):
        return len(self._steps)

    def __bool__(self):
        return True

    def __eq__(self, other):
        if not isinstance(other, Train) or self.name != other.name:
            return False
        return self.length == other.length and self._steps == other._steps and self.out == other.out

    def __repr__(self):
        return f"Train({self.name}, {len(self._steps)} steps)"


def are_times(value):
    """Whether any value is a list of rising times, not too many and not too great."""
    if not isinstance(value, (list, tuple)) or not 1 <= len(value) <= MOST_TIMES:
        return False
    least = 1
    for time in value:
        if not is_number(time, least, MOST_TIME):
            return False
        least = time + 1
    return True


def refuse_steps(steps):
    for step in steps:
        if not isinstance(step, Step):
            raise InvalidStep(step)
    if len(steps) > Train.STEPS:
        raise TooMany("steps", Train.STEPS)
    if len(steps) == 0:
        raise InvalidStep(None)
