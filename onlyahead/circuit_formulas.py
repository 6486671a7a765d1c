"""Formulas that accept the words after which a circuit has some values."""

from onlyahead.circuit_lines import is_cell, refs_of
from onlyahead.circuit_steps import needed_places
from onlyahead.errors import TooMany


class Claims:
    """The lines of a formula that is being made; each line stands there once."""

    def __init__(self, most):
        self._most = most
        self._places = {}
        self._always = self.claim(("and", ()))

    def claimed(self):
        """The list of the lines so far."""
        return list(self._places)

    def claim(self, line):
        """The index of a line, which is put behind the others if it is not there."""
        if line not in self._places:
            if len(self._places) == self._most:
                raise TooMany("lines", self._most)
            self._places[line] = len(self._places)
        return self._places[line]

    def always(self):
        """The index of a line that is always true."""
        return self._always

    def one_of(self, refs):
        """The index of a line that is true if one of these is."""
        chosen = sorted(set(refs))
        return chosen[0] if len(chosen) == 1 else self.claim(("or", tuple(chosen)))

    def none_of(self, refs):
        """The index of a line that is true if none of these is."""
        return self.claim(("not", self.one_of(refs))) if refs else self._always

    def both_of(self, ref, other):
        """The index of a line that is true if both of these are."""
        chosen = sorted(set([ref, other]) - {self._always})
        if len(chosen) == 2:
            return self.claim(("and", tuple(chosen)))
        return chosen[0] if chosen else self._always


def told_by_past(circuit, accepted, most):
    """The lines and the first of a formula that accepts the words after which the value of a circuit is accepted.

    For each line of the circuit and each value that it may have there is a line that tells whether it has it."""
    lines = circuit.lines()
    claims = Claims(most)
    ahead = [{} for _ in lines]
    behind = [{} for _ in lines]
    for at in places_that_matter(lines):
        line = lines[at]
        if is_cell(line):
            behind[at] = sides_behind(claims, line, ahead[line[3]])
            ahead[at] = sides_ahead(claims, line[2], behind[at])
        else:
            ahead[at] = values_at(claims, line, ahead, circuit.alphabet)
    for at in needed_places(lines, [len(lines) - 1]):
        behind[at] = values_at(claims, lines[at], behind, circuit.alphabet)
    refs = [ref for worth, ref in behind[-1].items() if worth in accepted]
    last = ("or", tuple(sorted(set(refs))))
    return [*claims.claimed(), last], circuit.after("") in accepted


def places_that_matter(lines):
    """The ascending list of the places of all lines that the last one needs, at the same moment or an earlier one."""
    found = {len(lines) - 1: True}
    for at in reversed(range(len(lines))):
        if at in found:
            for ref in refs_of(lines[at]):
                found[ref] = True
    return sorted(list(found))


def values_at(claims, line, values, alphabet):
    """For each value that a line, no cell, may have, the index of a line that tells whether it has it.

    The values have this for each line ahead of it."""
    kind = line[0]
    if kind == "const":
        return {line[1]: claims.always()}
    if kind == "letter":
        return {at: claims.claim(("is", sign)) for at, sign in enumerate(alphabet)}
    found = {}
    if kind == "wire":
        for worth, ref in values[line[1]].items():
            found.setdefault(line[2][worth], []).append(ref)
    else:
        for worth, ref in values[line[1]].items():
            for other_worth, other in values[line[2]].items():
                found.setdefault(line[3][worth][other_worth], []).append(claims.both_of(ref, other))
    return {worth: claims.one_of(refs) for worth, refs in found.items()}


def sides_behind(claims, cell, values):
    """For each side that a cell may have behind the letter, the index of a line that tells whether it has it.

    The values have this for the line of its ref."""
    if cell[0] == "counter":
        return counter_sides(claims, cell, values)
    start = cell[2]
    found = {}
    for worth, ref in values.items():
        if worth != 0 and worth - 1 != start:
            found[worth - 1] = claims.claim(("since", values[0], ref)) if 0 in values else ref
    others = list(found.values())
    found[start] = claims.none_of(others)
    return found


def counter_sides(claims, cell, values):
    """For each side that a counter may have behind the letter, the index of a line that tells whether it has it."""
    _, prime, start, _ = cell
    found = {start: claims.always()}
    for step, refs in counted_steps(values, prime).items():
        source = claims.one_of(refs)
        sums = {}
        for rest in range(prime):
            counted = claims.claim(("count", source, prime, rest))
            for side, ref in found.items():
                sums.setdefault((side + step * rest) % prime, []).append(claims.both_of(ref, counted))
        found = {side: claims.one_of(refs) for side, refs in sums.items()}
    return found


def counted_steps(values, prime):
    """For each of some steps the list of the indexes of the lines that make it: what a counter adds is their sum.

    Each step is counted by itself, so there should be few: the steps are the numbers that are added, or powers of 2."""
    added = {}
    powers = {}
    for worth, ref in values.items():
        left = worth % prime
        if left > 0:
            added.setdefault(left, []).append(ref)
        power = 1
        while left > 0:
            if left % 2 == 1:
                powers.setdefault(power, []).append(ref)
            left = left // 2
            power = 2 * power
    return powers if len(powers) < len(added) else added


def sides_ahead(claims, start, behind):
    """For each side that a cell may have ahead of the letter, the index of a line that tells whether it has it."""
    found = {side: claims.claim(("before", ref)) for side, ref in behind.items() if side != start}
    others = list(found.values())
    found[start] = claims.none_of(others)
    return found
