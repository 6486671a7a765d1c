"""Alphabets and words."""

from onlyahead.errors import InvalidAlphabet

MOST_LETTERS = 4


def is_alphabet(value):
    """Whether any value is a string of 1 to 4 different lowercase letters, ascending."""
    if not isinstance(value, str) or not 1 <= len(value) <= MOST_LETTERS:
        return False
    if not all(["a" <= sign <= "z" for sign in value]):
        return False
    return all([value[at - 1] < value[at] for at in range(1, len(value))])


def is_word(alphabet, value):
    """Whether any value is a string of letters of the alphabet."""
    return isinstance(value, str) and all([sign in alphabet for sign in value])


def words_to(alphabet, length):
    """All words over the alphabet with at most this many letters, in order."""
    if not is_alphabet(alphabet):
        raise InvalidAlphabet(alphabet)
    yield ""
    words = [""]
    for _ in range(length):
        words = [word + letter for word in words for letter in alphabet]
        yield from words
