"""The texts of formulas."""

from onlyahead.errors import InvalidText
from onlyahead.letters import is_alphabet
from onlyahead.texts import number_words, read_numbers, text_rows

NO_LETTERS = "-"


def written_formula(alphabet, lines, first):
    """The text of a formula."""
    rows = [written_formula_line(line) for line in lines]
    word = "yes" if first else "no"
    return "\n".join([f"formula {alphabet} {word}", *rows])


def written_formula_line(line):
    """The row of a line in a text."""
    kind = line[0]
    if kind == "is":
        words = [line[1] or NO_LETTERS]
    elif kind == "and" or kind == "or":
        words = number_words(line[1])
    else:
        words = number_words(line[1:])
    return " ".join([kind, *words])


def read_formula(text):
    """The alphabet, the list of the lines and the first that a text tells.

    A row that is no line in its form gives None or another value that cannot stand as a line."""
    rows = text_rows(text)
    words = rows[0].split(" ")
    if len(words) != 3 or words[0] != "formula" or not is_alphabet(words[1]) or words[2] not in ("yes", "no"):
        raise InvalidText(0)
    return words[1], [read_formula_line(row) for row in rows[1:]], words[2] == "yes"


def read_formula_line(row):
    """The line that a row of a text tells."""
    kind, *words = row.split(" ")
    if kind == "is":
        return read_letters(words)
    numbers = read_numbers(words)
    if numbers is None:
        return None
    if kind == "and" or kind == "or":
        return (kind, numbers)
    # Where there are too many or too few numbers for the kind, or it is none, no such line can stand.
    return (kind, *numbers)


def read_letters(words):
    """The line that tells letters by the words behind its kind, or None."""
    if len(words) != 1 or words[0] == "":
        return None
    return ("is", "" if words[0] == NO_LETTERS else words[0])
