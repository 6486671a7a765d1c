"""The texts of circuits."""

from onlyahead.errors import InvalidText
from onlyahead.letters import is_alphabet
from onlyahead.texts import number_words, read_numbers, text_rows


def written_circuit(alphabet, lines):
    """The text of a circuit."""
    rows = [written_line(line) for line in lines]
    return "\n".join([f"circuit {alphabet}", *rows])


def written_line(line):
    """The row of a line in a text."""
    if line[0] == "wire":
        words = number_words([line[1], *line[2]])
    elif line[0] == "join":
        words = number_words(line[1:3]) + [",".join(number_words(row)) for row in line[3]]
    else:
        words = number_words(line[1:])
    return " ".join([line[0], *words])


def read_circuit(text):
    """The alphabet and the list of the lines that a text tells.

    A row that is no line in its form gives None or another value that cannot stand as a line."""
    rows = text_rows(text)
    words = rows[0].split(" ")
    if len(words) != 2 or words[0] != "circuit" or not is_alphabet(words[1]):
        raise InvalidText(0)
    return words[1], [read_line(row) for row in rows[1:]]


def read_line(row):
    """The line that a row of a text tells."""
    kind, *words = row.split(" ")
    if kind == "join":
        return read_join(words)
    numbers = read_numbers(words)
    if numbers is None:
        return None
    if kind == "wire" and numbers:
        ref, *table = numbers
        return ("wire", ref, tuple(table))
    # Where there are too many or too few numbers for the kind, or it is none, no such line can stand.
    return (kind, *numbers)


def read_join(words):
    """The join that the words behind its kind tell, or None."""
    refs = read_numbers(words[:2])
    table = [read_numbers(word.split(",")) for word in words[2:]]
    if refs is None or None in table:
        return None
    return ("join", *refs, tuple(table))
