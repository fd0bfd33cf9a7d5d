"""Words of the texts of the program, and the values that they stand for."""

from ringlessday.errors import InvalidText
from ringlessday.names import is_end, is_name

DIGITS = "0123456789"
# Python itself refuses to read or to write very great numbers at once, so they are taken part by part.
PART = 1000000000


def number_word(word):
    """The number that a word of digits without needless zeros stands for, None for any other word."""
    if word == "" or not all([digit in DIGITS for digit in word]):
        return None
    if word[0] == "0" and word != "0":
        return None
    number = 0
    for digit in word:
        number = number * 10 + int(digit)
    return number


def word_of_number(number):
    """The digits of a number, with its sign."""
    parts = []
    rest = abs(number)
    while rest >= PART:
        rest, part = divmod(rest, PART)
        parts.append(f"{part:09d}")
    parts.append(str(rest) if number >= 0 else f"-{rest}")
    return "".join(parts[::-1])


def end_word(word):
    """The end that a word stands for, None for any other word."""
    end = tuple(word.split("."))
    return end if is_end(end) else None


def word_of_end(end):
    return f"{end[0]}.{end[1]}"


def entry_word(word):
    """The pair (name, number) that a word like a.0 stands for, whatever the number; None for any other word."""
    parts = word.split(".")
    if len(parts) != 2 or not is_name(parts[0]) or number_word(parts[1]) is None:
        return None
    return (parts[0], number_word(parts[1]))


def word_of_entry(entry):
    return f"{entry[0]}.{entry[1]}"


def rows_of(text):
    """The lines of a text, with None in the place of a last one that does not end with a line feed."""
    if not isinstance(text, str):
        raise InvalidText(0)
    rows = text.split("\n")
    unended = rows.pop()
    return rows if unended == "" else rows + [None]
