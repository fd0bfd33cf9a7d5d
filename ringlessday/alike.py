"""Tables that always give the same moments, and delays that part those that do not."""

from ringlessday.moments import runnable_web
from ringlessday.profiles import outdone, profile


def alike_at(one, other, entry):
    first, second = both_profiles(one, other, entry)
    return first == second


def alike(one, other):
    return all([alike_at(one, other, entry) for entry in one.plan.entries()])


def parting(one, other, entry):
    first, second = both_profiles(one, other, entry)
    for mine, its in ((first, second), (second, first)):
        for pair in mine:
            if not any([outdone(pair, rival) for rival in its]):
                return delays_for(pair, its)
    return None


def both_profiles(one, other, entry):
    # That a table has no day comes ahead of all else that a profile refuses.
    for table in (one, other):
        runnable_web(table)
    return profile(one, entry), profile(other, entry)


def delays_for(pair, rivals):
    """Delays with which a pair that no rival outdoes gives a greater moment than all rivals."""
    stops, total = pair
    # A rival that lacks one of the stops has one delay less; one that has them all has a lesser sum.
    most = max([rival[1] for rival in rivals])
    return {stop: max(most - total, 0) + 1 for stop in stops}
