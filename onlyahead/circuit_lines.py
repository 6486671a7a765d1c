"""The lines of circuits: which values can stand as lines, their sizes, and which of them look at the letter."""

from onlyahead.errors import InvalidLine
from onlyahead.kinds import is_below
from onlyahead.primes import is_prime

# Values of const lines and numbers in tables are less than this.
VALUES = 1000
FEWEST_SIDES = 2
MOST_SIDES = 999


def measured(lines, letters):
    """The sizes of lines over this many letters, and for each line whether it looks at the letter."""
    sizes = []
    looks = []
    for at, line in enumerate(lines):
        size = size_behind(sizes, line, letters)
        if size is None:
            raise InvalidLine(at)
        sizes.append(size)
        looks.append(looks_behind(looks, line))
    if looks[-1]:
        raise InvalidLine(len(lines) - 1)
    return sizes, looks


def size_behind(sizes, value, letters):
    """The size of any value as a line behind lines of these sizes, or None if it cannot stand there."""
    if not isinstance(value, tuple) or not value:
        return None
    kind = value[0]
    parts = value[1:]
    if kind == "const" and len(parts) == 1:
        return const_size(*parts)
    if kind == "letter" and not parts:
        return letters
    if kind == "wire" and len(parts) == 2:
        return wire_size(sizes, *parts)
    if kind == "join" and len(parts) == 3:
        return join_size(sizes, *parts)
    if kind == "latch" and len(parts) == 3:
        return latch_size(sizes, *parts)
    if kind == "counter" and len(parts) == 3:
        return counter_size(sizes, *parts)
    return None


def const_size(worth):
    """The size of a const line of any value, or None."""
    return worth + 1 if is_below(worth, VALUES) else None


def wire_size(sizes, ref, table):
    """The size of a wire of any values behind lines of these sizes, or None."""
    if not is_below(ref, len(sizes)) or not is_table(table, sizes[ref]):
        return None
    return max(table) + 1


def is_table(value, length):
    """Whether any value is a tuple with this many numbers that tables may hold."""
    return isinstance(value, tuple) and len(value) == length and all([is_below(item, VALUES) for item in value])


def join_size(sizes, ref, other, table):
    """The size of a join of any values behind lines of these sizes, or None."""
    if not is_below(ref, len(sizes)) or not is_below(other, len(sizes)):
        return None
    if not isinstance(table, tuple) or len(table) != sizes[ref]:
        return None
    if not all([is_table(row, sizes[other]) for row in table]):
        return None
    return max([max(row) for row in table]) + 1


def latch_size(sizes, sides, start, ref):
    """The size of a latch of any values behind lines of these sizes, or None."""
    if not is_below(sides, MOST_SIDES + 1) or sides < FEWEST_SIDES:
        return None
    if not is_below(start, sides) or not is_below(ref, len(sizes)):
        return None
    return sides if sizes[ref] <= sides + 1 else None


def counter_size(sizes, prime, start, ref):
    """The size of a counter of any values behind lines of these sizes, or None."""
    if not is_prime(prime) or not is_below(start, prime) or not is_below(ref, len(sizes)):
        return None
    return prime


def looks_behind(looks, line):
    """Whether a line looks at the letter; looks tells it of the lines ahead."""
    return line[0] == "letter" or any([looks[ref] for ref in refs_at_once(line)])


def refs_at_once(line):
    """The list of the refs whose values a line needs at the same moment: a cell needs none."""
    if line[0] == "wire":
        return [line[1]]
    if line[0] == "join":
        return [line[1], line[2]]
    return []


def refs_of(line):
    """The list of all refs of a line."""
    return [line[3]] if is_cell(line) else refs_at_once(line)


def is_cell(line):
    """Whether a line is a latch or a counter."""
    return line[0] == "latch" or line[0] == "counter"
