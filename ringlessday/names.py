"""Names, numbers, ends and entries, told apart from all other values."""

LETTERS = "abcdefghijklmnopqrstuvwxyz"
SIDES = ("a", "b", "c", "d", "left", "right", "stem")
MOST_LETTERS = 6
MOST_STEPS = 6
# The limit of times, stops, public moments, turns and waits.
MOST_TIME = 1000000
# The limit of the moments of wishes, sightings and journeys.
MOST_MOMENT = 1000000000


def is_name(value):
    if not isinstance(value, str) or not 1 <= len(value) <= MOST_LETTERS:
        return False
    return all([letter in LETTERS for letter in value])


def is_number(value, least, most):
    return is_integer(value) and least <= value <= most


def is_integer(value):
    """Whether any value is a number, however great."""
    # True and False are integers to Python, but no numbers here.
    return isinstance(value, int) and not isinstance(value, bool)


def is_end(value):
    return isinstance(value, tuple) and len(value) == 2 and is_name(value[0]) and value[1] in SIDES


def is_entry(value):
    if not isinstance(value, tuple) or len(value) != 2:
        return False
    return is_name(value[0]) and is_number(value[1], 0, MOST_STEPS - 1)
