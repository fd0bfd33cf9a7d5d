"""Dicts from entries to numbers: delays, and whatever else has their form."""

from ringlessday.names import MOST_TIME, is_entry, is_number


def are_delays(plan, value):
    """Whether any value is a dict from entries of a plan to numbers that delays may have."""
    return are_numbers(plan, value, MOST_TIME)


def are_numbers(plan, value, most):
    """Whether any value is a dict from entries of a plan to numbers from 0 to most."""
    if not isinstance(value, dict):
        return False
    entries = plan.entries()
    for entry, number in value.items():
        if not is_entry(entry) or entry not in entries or not is_number(number, 0, most):
            return False
    return True
