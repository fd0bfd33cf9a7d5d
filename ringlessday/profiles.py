"""Profiles: what all ways to an entry make of all delays."""

from ringlessday.errors import TooMany
from ringlessday.moments import runnable_web

MOST_ENTRIES = 14


def profile(table, entry):
    web = runnable_web(table)
    entries = table.plan.entries()
    if len(entries) > MOST_ENTRIES:
        raise TooMany("entries", MOST_ENTRIES)
    table.plan.place_of(entry)
    found = stops_and_sums(web)[entry]
    rows = sorted([(places_of(stops, len(entries)), total) for stops, total in found])
    return [(tuple([entries[at] for at in places]), total) for places, total in rows]


def outdone(one, other):
    """Whether a pair (stops, sum) is outdone by another one."""
    return all([stop in other[0] for stop in one[0]]) and one[1] <= other[1]


def moment_by(profile, delays):
    moments = [total + sum([delays.get(stop, 0) for stop in stops]) for stops, total in profile]
    return max(moments, default=0)


def stops_and_sums(web):
    """For each entry the pairs (stops, sum) of ways that are not outdone, the stops as the bits of a number."""
    plan = web.table.plan
    found = {}
    for entry in web.row():
        own = 1 << plan.place_of(entry)
        pairs = [(own, plan.step_of(entry).base)]
        for tie in web.into(entry):
            # What is outdone on the way stays so behind each further tie, so it need not be kept.
            pairs.extend([(stops + own, total + tie[2]) for stops, total in found[tie[0]]])
        found[entry] = not_outdone(pairs)
    return found


def not_outdone(pairs):
    """The pairs that are outdone by no unequal one, each once."""
    found = []
    # Of equal sums the more stops come first as the greater number, so nothing is outdone by a later pair.
    for total, stops in sorted([(total, stops) for stops, total in pairs], reverse=True):
        if not any([stops & other == stops for other, _ in found]):
            found.append((stops, total))
    return found


def places_of(stops, many):
    """The ascending list of the places, out of so many, whose bits are set in a number."""
    return [at for at in range(many) if (stops >> at) & 1 == 1]
