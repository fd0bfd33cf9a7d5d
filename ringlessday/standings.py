"""Questions about standings, reached or not."""

from ringlessday.errors import Finished, InvalidStanding, UnknownName
from ringlessday.hinders import Hinders
from ringlessday.names import is_number


def size(plan):
    return Hinders(plan).size()


def lets(plan, standing):
    refuse_invalid(plan, standing)
    return Hinders(plan).lets(standing)


def after(plan, standing, train):
    refuse_invalid(plan, standing)
    hinders = Hinders(plan)
    refuse_without_step(hinders, standing, train)
    return hinders.after(standing, train)


def hindrance(plan, standing, train):
    refuse_invalid(plan, standing)
    hinders = Hinders(plan)
    refuse_without_step(hinders, standing, train)
    return hinders.hindrance(standing, train)


def locked(plan, standing):
    refuse_invalid(plan, standing)
    hinders = Hinders(plan)
    found = set()
    for entry in plan.entries():
        if hinders.is_made(standing, entry[0], entry[1]):
            for row in plan.demand_of(entry):
                if hinders.is_locked(standing, plan.clear_of(entry, row[0])):
                    found.add(row[0])
    return sorted(found)


def entry_rows(plan, standing):
    """The rows of entries that are let one after another and lead from a standing to the end."""
    refuse_invalid(plan, standing)
    hinders = Hinders(plan)
    begun = [(standing, [])]
    while begun:
        here, row = begun.pop()
        if hinders.is_end(here):
            yield row
        # The last one is taken first, so the trains are put in from the last to the first.
        for name in reversed(list(hinders.lets(here))):
            there = hinders.after(here, name)
            # Without this a long search could pass between two rows, or end with none.
            if hinders.ends_well(there):
                begun.append((there, row + [hinders.next_entry(here, name)]))


def refuse_invalid(plan, value):
    """Raises the error of any value that is no standing of a plan."""
    if not isinstance(value, tuple) or len(value) != len(plan):
        raise InvalidStanding(value)
    for name, number in zip(plan.trains(), value):
        if not is_number(number, 0, len(plan.train_of(name))):
            raise InvalidStanding(value)


def refuse_without_step(hinders, standing, train):
    if train not in hinders.plan:
        raise UnknownName(train)
    if not hinders.has_steps_left(standing, train):
        raise Finished(train)
