"""The lines of formulas: which values can stand as lines, and when they are true."""

from onlyahead.errors import InvalidLine
from onlyahead.kinds import is_below
from onlyahead.primes import is_prime


def check_lines(alphabet, lines):
    """Raises the error of the first line that cannot stand at its place."""
    for at, line in enumerate(lines):
        if not can_stand(alphabet, line, at):
            raise InvalidLine(at)


def can_stand(alphabet, value, place):
    """Whether any value is a line that can stand at a place."""
    if not isinstance(value, tuple) or not value:
        return False
    kind = value[0]
    parts = value[1:]
    if kind == "is" and len(parts) == 1:
        return are_letters(alphabet, *parts)
    if (kind == "not" or kind == "before") and len(parts) == 1:
        return is_below(parts[0], place)
    if (kind == "and" or kind == "or") and len(parts) == 1:
        return are_refs(parts[0], place)
    if kind == "since" and len(parts) == 2:
        return is_below(parts[0], place) and is_below(parts[1], place)
    if kind == "count" and len(parts) == 3:
        return is_below(parts[0], place) and is_prime(parts[1]) and is_below(parts[2], parts[1])
    return False


def are_letters(alphabet, value):
    """Whether any value is a string of letters of the alphabet, ascending, each once."""
    return isinstance(value, str) and value == "".join([letter for letter in alphabet if letter in value])


def are_refs(value, place):
    """Whether any value is an ascending tuple of different refs for a line at a place."""
    if not isinstance(value, tuple) or not all([is_below(ref, place) for ref in value]):
        return False
    return all([value[at - 1] < value[at] for at in range(1, len(value))])


def moved_line(line, places):
    """A line with refs that are greater by this many places."""
    kind = line[0]
    if kind == "is":
        return line
    if kind == "and" or kind == "or":
        return (kind, tuple([ref + places for ref in line[1]]))
    if kind == "since":
        return (kind, line[1] + places, line[2] + places)
    return (kind, line[1] + places, *line[2:])


def last_truths(lines, word):
    """The list of the truths of lines at the last moment of a word; ahead of all moments none is true."""
    truths = [False for _ in lines]
    counts = [0 for _ in lines]
    for letter in word:
        truths, counts = next_truths(lines, letter, truths, counts)
    return truths


def next_truths(lines, letter, past, counts):
    """The truths of lines at a moment with this letter, and the counts of the count lines, at their places.

    The past truths and the counts are those of the moment ahead."""
    truths = []
    fresh = list(counts)
    for at, line in enumerate(lines):
        kind = line[0]
        if kind == "is":
            truth = letter in line[1]
        elif kind == "not":
            truth = not truths[line[1]]
        elif kind == "and":
            truth = all([truths[ref] for ref in line[1]])
        elif kind == "or":
            truth = any([truths[ref] for ref in line[1]])
        elif kind == "before":
            truth = past[line[1]]
        elif kind == "since":
            truth = truths[line[2]] or (truths[line[1]] and past[at])
        else:
            if truths[line[1]]:
                fresh[at] = (counts[at] + 1) % line[2]
            truth = fresh[at] == line[3]
        truths.append(truth)
    return truths, fresh
