"""A desk that answers lines of words about one plan and its led day."""

from ringlessday.errors import DayError, InvalidNumber, Missing, NothingLeft
from ringlessday.led import LedDay
from ringlessday.names import MOST_TIME, is_name, is_number
from ringlessday.values import fresh_within
from ringlessday.words import entry_word, number_word, word_of_entry

UNKNOWN = "unknown"
DOOMED = "doomed"
WORD_OF_ORDER = {True: "first", False: "second", None: "open", "": "lost"}


def done_undo(day):
    day.undo()
    return "done"


def done_redo(day):
    day.redo()
    return "done"


def told_made(day):
    return joined([f"{word_of_entry(entry)}={moment}" for entry, moment in day.made()])


def told_choices(day):
    return joined(day.choices())


def told_standing(day):
    numbers = [str(number) for number in day.standing]
    return " ".join(numbers) if numbers else "-"


def told_safe(day):
    return "yes" if day.safe_now else "no"


def told_row(day):
    ahead = day.lead()
    return DOOMED if ahead is None else joined([word_of_entry(entry) for entry in ahead])


def told_orders(day):
    return joined([WORD_OF_ORDER[order] for order in day.orders()])


def told_still(day):
    return joined([WORD_OF_ORDER[order] for order in day.still()])


# What answers the lines of one word.
TELLERS = {
    "undo": done_undo, "redo": done_redo, "made": told_made, "choices": told_choices, "standing": told_standing,
    "safe": told_safe, "row": told_row, "orders": told_orders, "still": told_still,
}


class Desk:
    """A led day with the lines that were said about it."""

    def __init__(self, plan, *, guarded=True):
        self.day = LedDay(plan, guarded=guarded)
        self._spare = 0
        self._log = []

    @property
    def spare(self):
        return self._spare

    @spare.setter
    def spare(self, value):
        self.set_spare(value)

    def set_spare(self, value):
        if not is_number(value, 0, MOST_TIME):
            raise InvalidNumber(value)
        self._spare = value

    def say(self, line):
        answer = self._answer(line)
        self._log.append((fresh_within(line), answer))
        return answer

    def log(self):
        return [(fresh_within(line), answer) for line, answer in self._log]

    def __call__(self, line):
        return self.say(line)

    def __len__(self):
        return len(self._log)

    def __bool__(self):
        return True

    def __repr__(self):
        return f"Desk({len(self._log)} lines)"

    def _answer(self, line):
        if not isinstance(line, str):
            return UNKNOWN
        words = line.split(" ")
        try:
            if len(words) == 1 and words[0] in TELLERS:
                teller = TELLERS[words[0]]
                return teller(self.day)
            return self._answer_with_values(words[0], words[1:])
        except (DayError, Missing, NothingLeft) as error:
            return f"error {error.code}"

    def _answer_with_values(self, word, values):
        """The answer to a line of a word and values."""
        numbers = [number_word(value) for value in values[1:]]
        if None in numbers or values == []:
            return UNKNOWN
        if word == "enter" and len(values) < 3 and is_name(values[0]):
            return self._enter(values[0], numbers[0] if numbers else 0)
        if word == "spare" and len(values) == 1 and number_word(values[0]) is not None:
            self.set_spare(number_word(values[0]))
            return "done"
        if word in ("least", "latest") and len(values) == (1 if word == "least" else 2):
            entry = entry_word(values[0])
            if entry is not None:
                return self._latest(entry, numbers[0] if numbers else 0)
        return UNKNOWN

    def _enter(self, train, late):
        moment = self.day.enter(train, late=late)
        return f"{word_of_entry(self.day.made()[-1][0])} at {moment}"

    def _latest(self, entry, late):
        """The answer to least, which is latest with no late entry, and to latest."""
        if not self.day.safe_now:
            return DOOMED
        self.day.plan.place_of(entry)
        bounds = {other: self._spare for other in self.day.plan.entries()}
        return str(self.day.outlook(self.day.course(), bounds, late=late)[entry])


def joined(words):
    return " ".join(words) if words else "none"
