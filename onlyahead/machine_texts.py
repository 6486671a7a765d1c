"""The texts of machines and judges."""

from onlyahead.errors import InvalidText
from onlyahead.kinds import is_below
from onlyahead.letters import is_alphabet
from onlyahead.texts import is_written_number, text_rows

STAR = "*"


def written(alphabet, start, rows, accepts):
    """The text of a judge, or of a machine if accepts is None instead of a list with a truth for each state."""
    kind = "machine" if accepts is None else "judge"
    head = f"{kind} {alphabet} {start}"
    lines = [written_row(row, accepts, state) for state, row in enumerate(rows)]
    return "\n".join([head, *lines])


def written_row(row, accepts, state):
    """The row of a state in a text."""
    words = [str(target) for target in row]
    if accepts is not None and accepts[state]:
        words.append(STAR)
    return " ".join(words)


def read_machine(text, most):
    """The alphabet, the start and the rows of the machine in a text."""
    alphabet, start, pairs = read_states(text, "machine", most)
    return alphabet, start, [row for row, _ in pairs]


def read_judge(text, most):
    """The alphabet, the start, the rows and the accepted states of the judge in a text."""
    alphabet, start, pairs = read_states(text, "judge", most)
    accepted = [state for state, (_, starred) in enumerate(pairs) if starred]
    return alphabet, start, [row for row, _ in pairs], accepted


def read_states(text, kind, most):
    """The alphabet, the start and for each state its row and whether a star stands behind it."""
    lines = text_rows(text)
    alphabet, start = read_head(lines[0], kind)
    pairs = []
    for at in range(1, len(lines)):
        pair = read_row(lines[at], len(alphabet), kind == "judge")
        if pair is None:
            raise InvalidText(at)
        pairs.append(pair)
    # What only all rows together show to be wrong is told of the first row.
    if not 1 <= len(pairs) <= most or not is_below(start, len(pairs)):
        raise InvalidText(0)
    if not all([target < len(pairs) for row, _ in pairs for target in row]):
        raise InvalidText(0)
    return alphabet, start, pairs


def read_head(line, kind):
    """The alphabet and the start that the first row of a text of this kind tells."""
    words = line.split(" ")
    if len(words) != 3 or words[0] != kind:
        raise InvalidText(0)
    if not is_alphabet(words[1]) or not is_written_number(words[2]):
        raise InvalidText(0)
    return words[1], int(words[2])


def read_row(line, letters, may_star):
    """The row of a state and whether a star stands behind it, or None if the line has no such form."""
    words = line.split(" ")
    starred = may_star and words[-1] == STAR
    numbers = words[:-1] if starred else words
    if len(numbers) != letters or not all([is_written_number(word) for word in numbers]):
        return None
    return tuple([int(word) for word in numbers]), starred
