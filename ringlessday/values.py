"""Copies of any values."""


def fresh(value):
    """A new list, with new lists within it, for a list; any other value as it is."""
    if not isinstance(value, list):
        return value
    return [fresh_within(part) for part in value]


def fresh_within(value):
    """A value of a list, with new lists in the place of all lists within it."""
    if isinstance(value, list):
        return [fresh_within(part) for part in value]
    if isinstance(value, tuple):
        return tuple([fresh_within(part) for part in value])
    return value
