"""How the lines of circuits get their values, and how the sides of cells change."""

from onlyahead.circuit_lines import is_cell, refs_at_once


def fill_values(lines, places, values, letter):
    """Sets the values of lines at some places, in order, at a letter with this index; no cell stands there.

    The list of values has an item for each line; those that these lines need are set."""
    for at in places:
        line = lines[at]
        kind = line[0]
        if kind == "wire":
            values[at] = line[2][values[line[1]]]
        elif kind == "join":
            values[at] = line[3][values[line[1]]][values[line[2]]]
        elif kind == "letter":
            values[at] = letter
        else:
            values[at] = line[1]


def changed_side(cell, side, worth):
    """The side that a cell with this side gets at a letter if the line of its ref has this value."""
    if cell[0] == "counter":
        return (side + worth) % cell[1]
    return side if worth == 0 else worth - 1


def needed_places(lines, targets, known=None):
    """The ascending list of the places of lines, cells left out, whose values the lines at the targets need.

    The line at the known place is left out, too, with what only its value needs."""
    needed = {target: True for target in targets}
    for at in reversed(range(len(lines))):
        if at in needed and at != known:
            for ref in refs_at_once(lines[at]):
                needed[ref] = True
    return [at for at in sorted(list(needed)) if at != known and not is_cell(lines[at])]


class Steps:
    """The steps of the cells of a circuit: their sides are lists, in the order of the cells."""

    def __init__(self, lines):
        self._lines = lines
        self._cells = [at for at, line in enumerate(lines) if is_cell(line)]
        self._ahead = needed_places(lines, [lines[at][3] for at in self._cells])
        # None of these looks at the letter, as the last line does not.
        self._behind = needed_places(lines, [len(lines) - 1])

    def first_sides(self):
        """The sides ahead of all letters."""
        return [self._lines[at][2] for at in self._cells]

    def next_sides(self, sides, letter):
        """The sides behind a letter with this index, if these are the sides ahead of it."""
        values = self._with_sides(sides)
        fill_values(self._lines, self._ahead, values, letter)
        cells = [self._lines[at] for at in self._cells]
        return [changed_side(cell, side, values[cell[3]]) for cell, side in zip(cells, sides)]

    def last_value(self, sides):
        """The value of the last line with these sides."""
        values = self._with_sides(sides)
        fill_values(self._lines, self._behind, values, None)
        return values[-1]

    def _with_sides(self, sides):
        """A list of values in which only those of the cells are set."""
        values = [None for _ in self._lines]
        for at, side in zip(self._cells, sides):
            values[at] = side
        return values
