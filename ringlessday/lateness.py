"""How late entries become if a few steps or trains are late."""

from ringlessday.delays import are_delays
from ringlessday.errors import InvalidDelays, InvalidNumber
from ringlessday.moments import moments_with, runnable_web
from ringlessday.names import is_number

# No plan has more entries.
MOST_LATE = 36
COUNTS = ("steps", "trains")


def latest(table, entry, bounds, *, late=1, of="steps"):
    web = asked_web(table, entry, bounds, late, of)
    if of == "trains":
        return moments_with(web, worst_of_trains(web, entry, bounds, late))[entry]
    return latest_numbers(web, bounds, late, {})[entry][late]


def worst(table, entry, bounds, *, late=1, of="steps"):
    web = asked_web(table, entry, bounds, late, of)
    if of == "trains":
        return worst_of_trains(web, entry, bounds, late)
    return worst_of_steps(web, entry, bounds, late)


def keeps(delays, bounds, *, late=1, of="steps"):
    for entry in list(delays) + list(bounds):
        if not 0 <= delays.get(entry, 0) <= bounds.get(entry, 0):
            return False
    delayed = [entry for entry in delays if delays[entry] > 0]
    if of == "trains":
        return len(set([entry[0] for entry in delayed])) <= late
    return len(delayed) <= late


def asked_web(table, entry, bounds, late, of):
    """The web of a table of which latest may be asked; raises the errors of latest."""
    web = runnable_web(table)
    table.plan.place_of(entry)
    refuse_bounds(table.plan, bounds, late)
    if of not in COUNTS:
        raise InvalidNumber(of)
    return web


def refuse_bounds(plan, bounds, late):
    """Raises the error of bounds, or of a number of late entries, that latest does not take."""
    if not are_delays(plan, bounds):
        raise InvalidDelays(bounds)
    if not is_number(late, 0, MOST_LATE):
        raise InvalidNumber(late)


def latest_numbers(web, bounds, late, made):
    """For each entry the list of its latest moments with 0 to late late steps.

    Entries of the dict made have a moment already, which no delay falls on.
    """
    found = {}
    for entry in web.row():
        if entry in made:
            found[entry] = [made[entry]] * (late + 1)
        else:
            found[entry] = numbers_behind(web, found, entry, bounds.get(entry, 0), late)
    return {entry: found[entry] for entry in web.table.plan.entries()}


def numbers_behind(web, found, entry, bound, late):
    """The latest moments of an entry, if those of all entries ahead of it are found."""
    numbers = []
    for count in range(late + 1):
        latest_one = on_time(web, found, entry, count)
        if count > 0:
            latest_one = max(latest_one, on_time(web, found, entry, count - 1) + bound)
        numbers.append(latest_one)
    return numbers


def on_time(web, found, entry, count):
    """The latest moment of an entry that is not late itself, with so many late steps ahead of it."""
    sums = [found[tie[0]][count] + tie[2] for tie in web.into(entry)]
    return max([web.table.plan.step_of(entry).base] + sums)


def worst_of_steps(web, entry, bounds, late):
    """Delays of a few steps with which an entry is as late as can be, found on the way back from it."""
    found = latest_numbers(web, bounds, late, {})
    delays = {}
    here = entry
    count = late
    while here is not None:
        if found[here][count] > on_time(web, found, here, count):
            delays[here] = bounds[here]
            count = count - 1
        here = entry_ahead(web, found, here, count)
    return delays


def entry_ahead(web, found, entry, count):
    """The entry to which a way goes back from an entry that is not late itself, None if the way begins there."""
    due = on_time(web, found, entry, count)
    if due == web.table.plan.step_of(entry).base:
        return None
    return [tie[0] for tie in web.into(entry) if found[tie[0]][count] + tie[2] == due][0]


def worst_of_trains(web, entry, bounds, late):
    """Delays of a few trains with which an entry is as late as can be."""
    found = {}
    most = moments_with(web, found)[entry]
    for chosen in choices_of(web.table.plan.trains(), late):
        delays = {one: bounds[one] for one in bounds if one[0] in chosen and bounds[one] > 0}
        moment = moments_with(web, delays)[entry]
        if moment > most:
            most = moment
            found = delays
    return found


def choices_of(names, most):
    """All lists of at most so many of some names."""
    found = [[]]
    for name in names:
        found = found + [chosen + [name] for chosen in found if len(chosen) < most]
    return found
