"""Which delays reach an entry, and which leave it where it is."""

from ringlessday.delays import are_delays
from ringlessday.errors import InvalidDelays
from ringlessday.moments import Moments, longest_from, moments_with, runnable_web


def buffer(table, one, other):
    web = runnable_web(table)
    for entry in (one, other):
        table.plan.place_of(entry)
    far = longest_from(web, one)
    if other not in far:
        return None
    moments = moments_with(web, {})
    return moments[other] - moments[one] - far[other]


def reach(table, entry):
    web = runnable_web(table)
    table.plan.place_of(entry)
    far = longest_from(web, entry)
    return [other for other in table.plan.entries() if other in far]


def needless(table, delays, entry):
    web = runnable_web(table)
    if not are_delays(table.plan, delays):
        raise InvalidDelays(delays)
    table.plan.place_of(entry)
    delayed = [other for other in table.plan.entries() if delays.get(other, 0) > 0]
    moment = moments_with(web, delays)[entry]
    return [other for other in delayed if moments_with(web, without(delays, other))[entry] == moment]


def without(delays, entry):
    """Delays in which that of one entry is left out."""
    return {other: delays[other] for other in delays if other != entry}


def tightest(table):
    web = runnable_web(table)
    moments = Moments(table)
    return [tie for tie in web.ties() if moments.slack(tie) == 0]
