"""Whether any values are the right levels of a circuit for a machine."""

from onlyahead.circuit_lines import is_cell, refs_of
from onlyahead.circuit_steps import changed_side, fill_values, needed_places
from onlyahead.kinds import is_below, is_listed, is_number
from onlyahead.state_sets import is_set_of

# In each level the product of the numbers of sets and letters and of the sizes of the cells is at most this.
MOST_CASES = 200000


def are_levels(machine, circuit, levels):
    """Whether any value is a list of levels that are right for a circuit and a machine."""
    if not is_listed(levels) or not levels:
        return False
    reachable = machine.reachable()
    if not all([is_level(level, circuit, reachable) for level in levels]):
        return False
    lines = circuit.lines()
    pairs = [(levels[at - 1], levels[at]) for at in range(1, len(levels))]
    return (
        is_first(lines, levels[0], reachable)
        and is_last(lines, levels[-1])
        and all([follows(lines, level, after) for level, after in pairs])
        and all([leads_inside(machine.rows(), level) for level in levels])
        and all([has_few_cases(circuit, level) for level in levels])
        and starts_inside(lines, machine.start, levels)
        and all([fits(circuit, level, after) for level, after in pairs])
    )


def is_level(value, circuit, reachable):
    """Whether any value is a level by itself: all parts are of their kinds, and there are as many sets as values."""
    if not isinstance(value, tuple) or len(value) != 4:
        return False
    line, sets, steps, cells = value
    if not is_below(line, len(circuit)) or line in circuit.cells or circuit.looks(line):
        return False
    if not isinstance(sets, tuple) or not all([is_set_of(item, reachable) for item in sets]):
        return False
    if len(sets) != circuit.sizes()[line] or not isinstance(steps, tuple) or len(steps) != len(sets):
        return False
    if not all([is_step(step, len(circuit.alphabet), len(sets)) for step in steps]):
        return False
    return isinstance(cells, tuple) and all([is_number(cell) for cell in cells])


def is_step(value, letters, many):
    """Whether any value is a tuple with an index of this many sets for each letter."""
    return isinstance(value, tuple) and len(value) == letters and all([is_below(item, many) for item in value])


def is_first(lines, level, reachable):
    """Whether a level may be the first one."""
    line, sets, _, _ = level
    if any([is_cell(ahead) for ahead in lines[:line]]):
        return False
    return lines[line] == ("const", 0) and sets == (tuple(reachable),)


def is_last(lines, level):
    """Whether a level may be the last one."""
    line, sets, _, cells = level
    if cells or any([is_cell(behind) for behind in lines[line:]]):
        return False
    if any([len(states) != 1 for states in sets]):
        return False
    return lines[-1] == ("wire", line, tuple([states[0] for states in sets]))


def follows(lines, level, after):
    """Whether the lines behind the line of a level, up to that of the next one, are right."""
    start, _, _, cells = level
    end = after[0]
    if end <= start or cells != tuple([at for at in range(start, end) if is_cell(lines[at])]):
        return False
    refs = [ref for at in range(start + 1, end + 1) for ref in refs_of(lines[at])]
    return all([ref >= start or lines[ref][0] == "letter" or lines[ref][0] == "const" for ref in refs])


def leads_inside(rows, level):
    """Whether each letter leads from all states of a set into the set of its step."""
    _, sets, steps, _ = level
    return all([
        rows[state][letter] in sets[target]
        for states, step in zip(sets, steps)
        for letter, target in enumerate(step)
        for state in states
    ])


def has_few_cases(circuit, level):
    """Whether the sets, letters and sides of a level are not too many to be looked at together."""
    _, sets, _, cells = level
    sizes = circuit.sizes()
    cases = len(sets) * len(circuit.alphabet)
    for cell in cells:
        cases = cases * sizes[cell]
    return cases <= MOST_CASES


def starts_inside(lines, start, levels):
    """Whether the start state lies in the set that each level tells at first."""
    values = [line[2] if is_cell(line) else None for line in lines]
    fill_values(lines, needed_places(lines, [level[0] for level in levels]), values, None)
    return all([start in sets[values[line]] for line, sets, _, _ in levels])


def fits(circuit, level, after):
    """Whether the line of the next level steps as the cells of a level make it step, in all cases."""
    line, _, steps, cells = level
    next_steps = after[2]
    case_values = next_values(circuit, level, after[0])
    lines = circuit.lines()
    places = needed_places(lines, [lines[cell][3] for cell in cells], line)
    values = [None for _ in lines]
    for at, sides in list(case_values):
        values[line] = at
        for cell, side in zip(cells, sides):
            values[cell] = side
        for letter, target in enumerate(steps[at]):
            fill_values(lines, places, values, letter)
            changed = tuple([changed_side(lines[cell], values[cell], values[lines[cell][3]]) for cell in cells])
            if case_values[target, changed] != next_steps[case_values[at, sides]][letter]:
                return False
    return True


def next_values(circuit, level, end):
    """The value of the line of the next level for each value of the line of a level and all sides of its cells."""
    line, sets, _, cells = level
    lines = circuit.lines()
    sizes = circuit.sizes()
    places = needed_places(lines, [end], line)
    values = [None for _ in lines]
    found = {}
    for at in range(len(sets)):
        values[line] = at
        for sides in all_sides([sizes[cell] for cell in cells]):
            for cell, side in zip(cells, sides):
                values[cell] = side
            fill_values(lines, places, values, None)
            found[at, sides] = values[end]
    return found


def all_sides(sizes):
    """The list of all tuples with a side for each of some cells with these sizes."""
    found = [()]
    for size in sizes:
        found = [(*sides, side) for sides in found for side in range(size)]
    return found
