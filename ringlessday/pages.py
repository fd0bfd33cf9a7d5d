"""Plans as texts, texts as plans, and led days as boards."""

from ringlessday.errors import DayError, InvalidText, Missing
from ringlessday.layouts import Layout
from ringlessday.names import MOST_TIME, is_name, is_number
from ringlessday.plans import Plan
from ringlessday.tracktext import TrackReader, track_text
from ringlessday.trains import Step, Train
from ringlessday.words import number_word, rows_of

# Lines stand in the order of these ranks; those of the track have the rank 1, and steps that of their train.
RANKS_BEHIND = {"train": 2, "step": 2, "turn": 3, "wait": 4}


def plan_page(plan):
    rows = []
    for name in plan.trains():
        train = plan.train_of(name)
        rows.append(f"train {name} {train.length} out {train.out}")
        rows.extend([step_row(step) for step in train.steps()])
    rows.extend([f"turn {name} {other} {time}" for name, other, time in plan.turns()])
    rows.extend([f"wait {name} {at} {other} {its} {time}" for name, at, other, its, time in plan.waits()])
    return track_text(plan.layout.track()) + "".join([f"{row}\n" for row in rows])


def step_row(step):
    public = "-" if step.public is None else str(step.public)
    times = " ".join([str(time) for time in step.times()])
    return f"step {step.route} stop {step.stop} public {public} times {times}"


def read_plan(text):
    reader = PageReader()
    rows = rows_of(text)
    for at, row in enumerate(rows):
        if row is None or not reader.take(row):
            raise InvalidText(at + 1)
    plan = reader.whole_plan()
    if plan is None:
        raise InvalidText(len(rows) + 1)
    return plan


class PageReader:
    """What a plan is made of, taken from a page line by line."""

    def __init__(self):
        self._track_reader = TrackReader()
        self._rank = 1
        # For each train a tuple (name, length, out, list of its steps).
        self._begun = []
        self._turns = []
        self._waits = []

    def take(self, line):
        """Whether a line is right at its place; a wrong one is the last one that is taken."""
        words = line.split(" ")
        rank = RANKS_BEHIND.get(words[0], 1)
        if rank < self._rank or (self._lacks_step() and words[0] != "step"):
            return False
        self._rank = rank
        if rank == 1:
            return self._track_reader.take(line)
        if words[0] == "train":
            return self._take_train(words)
        if words[0] == "step":
            return self._take_step(words)
        return self._take_turn(words) if words[0] == "turn" else self._take_wait(words)

    def whole_plan(self):
        """The plan, None if something is missing or refused."""
        if self._lacks_step():
            return None
        try:
            layout = Layout(self._track_reader.ground)
            trains = [Train(name, length, *steps, out=out) for name, length, out, steps in self._begun]
            return Plan(layout, *trains, turns=self._turns, waits=self._waits)
        except (DayError, Missing):
            return None

    def _lacks_step(self):
        return self._begun != [] and self._begun[-1][3] == []

    def _take_train(self, words):
        if len(words) != 5 or words[3] != "out" or not is_name(words[1]):
            return False
        length, out = number_word(words[2]), number_word(words[4])
        if not is_number(length, 1, Train.LENGTH) or not is_number(out, 1, MOST_TIME):
            return False
        self._begun.append((words[1], length, out, []))
        return True

    def _take_step(self, words):
        if self._begun == [] or len(self._begun[-1][3]) == Train.STEPS:
            return False
        step = step_of_words(words)
        if step is None:
            return False
        self._begun[-1][3].append(step)
        return True

    def _take_turn(self, words):
        time = number_word(words[-1])
        if len(words) != 4 or not is_name(words[1]) or not is_name(words[2]) or time is None:
            return False
        self._turns.append((words[1], words[2], time))
        return True

    def _take_wait(self, words):
        if len(words) != 6 or not is_name(words[1]) or not is_name(words[3]):
            return False
        numbers = [number_word(words[at]) for at in (2, 4, 5)]
        if None in numbers:
            return False
        self._waits.append((words[1], numbers[0], words[3], numbers[1], numbers[2]))
        return True


def step_of_words(words):
    """The step of the words of a line, None if the line has not the form of one or the step is refused."""
    if len(words) < 8 or words[1] == "" or words[2:7:2] != ["stop", "public", "times"]:
        return None
    public = None if words[5] == "-" else number_word(words[5])
    if public is None and words[5] != "-":
        return None
    try:
        return Step(words[1], [number_word(word) for word in words[7:]], stop=number_word(words[3]), public=public)
    except DayError:
        return None


def board(day):
    """A line for each entry of the plan of a led day."""
    rows = []
    for entry in day.plan.entries():
        moment = day.moment(entry)
        told = "-" if moment is None else str(moment)
        rows.append(f"{entry[0]:<6} {entry[1]:>2} {day.plan.step_of(entry).route:<16} {told:>7}")
    return rows
