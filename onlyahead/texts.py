"""What the texts of all kinds have in common: rows, words and numbers."""

from onlyahead.errors import InvalidText

DIGITS = "0123456789"
MOST_DIGITS = 9


def text_rows(text):
    """The rows of a text."""
    if not isinstance(text, str):
        raise InvalidText(0)
    return text.split("\n")


def is_written_number(word):
    """Whether a word of a text is a number, as texts write it."""
    if not 1 <= len(word) <= MOST_DIGITS:
        return False
    if word[0] == "0" and len(word) > 1:
        return False
    # Methods like isdigit would let digits of other scripts pass.
    return all([sign in DIGITS for sign in word])


def number_words(numbers):
    """The list of the words that tell some numbers."""
    return [str(number) for number in numbers]


def read_numbers(words):
    """The tuple of the numbers that some words are, or None if one of them is no number."""
    if not all([is_written_number(word) for word in words]):
        return None
    return tuple([int(word) for word in words])
