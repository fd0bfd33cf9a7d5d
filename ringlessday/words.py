"""Words of the texts of the program, and the values that they stand for."""

from ringlessday.names import is_end

DIGITS = "0123456789"
MOST_DIGITS = 10


def number_word(word):
    """The number that a word of digits without needless zeros stands for, None for any other word."""
    # Far longer rows of digits are no numbers of this program, and Python itself refuses to read some of them.
    if not 1 <= len(word) <= MOST_DIGITS or not all([digit in DIGITS for digit in word]):
        return None
    number = int(word)
    return number if str(number) == word else None


def end_word(word):
    """The end that a word stands for, None for any other word."""
    end = tuple(word.split("."))
    return end if is_end(end) else None


def word_of_end(end):
    return f"{end[0]}.{end[1]}"
