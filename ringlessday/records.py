"""Deeds of machines as texts, and rows of entries as deeds."""

from ringlessday.errors import DayError, InvalidRow, InvalidText, Missing, NothingLeft
from ringlessday.machine import Machine
from ringlessday.names import is_entry
from ringlessday.words import rows_of


def record_text(machine):
    return "".join([f"{word} {train}\n" for word, train in machine.history()])


def play_record(plan, text):
    machine = Machine(plan)
    for at, row in enumerate(rows_of(text)):
        if row is None or not is_played(machine, row):
            raise InvalidText(at + 1)
    return machine


def is_played(machine, line):
    """Whether a machine does the deed of a line."""
    words = line.split(" ")
    if len(words) != 2:
        return False
    try:
        machine.deeds((words[0], words[1]))
    except (DayError, Missing, NothingLeft):
        return False
    return True


def play_row(plan, row):
    if not is_begun_row(plan, row):
        raise InvalidRow(row)
    machine = Machine(plan)
    for train, _ in row:
        machine.run_all()
        machine.ask(train)
    machine.run_all()
    return machine


def is_begun_row(plan, value):
    """Whether any value is a list of entries of a plan in which each train has its steps from 0 on, in order."""
    if not isinstance(value, (list, tuple)):
        return False
    due = {name: 0 for name in plan.trains()}
    for entry in value:
        if not is_entry(entry) or entry not in plan.entries() or entry[1] != due[entry[0]]:
            return False
        due[entry[0]] = due[entry[0]] + 1
    return True
