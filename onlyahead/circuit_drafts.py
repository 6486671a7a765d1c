"""Drafts of circuits: lines that are put one behind the other."""

from onlyahead.circuit_lines import size_behind
from onlyahead.errors import TooMany


class Draft:
    """The lines of a circuit that is being made, over an alphabet with this many letters."""

    def __init__(self, letters, most):
        self._letters = letters
        self._most = most
        self._drawn = []
        self._sizes = []

    def drawn(self):
        """The list of the lines so far."""
        return list(self._drawn)

    def put(self, line):
        """Puts a line behind the others; returns its index."""
        if len(self._drawn) == self._most:
            raise TooMany("lines", self._most)
        self._drawn.append(line)
        self._sizes.append(size_behind(self._sizes, line, self._letters))
        return len(self._drawn) - 1

    # Tables are given for all values that lines like these may have; what is beyond their sizes is cut off.

    def put_wire(self, ref, table):
        """Puts a wire behind the others; returns its index."""
        return self.put(("wire", ref, tuple(table[:self._sizes[ref]])))

    def put_join(self, ref, other, table):
        """Puts a join behind the others; returns its index."""
        rows = [tuple(row[:self._sizes[other]]) for row in table[:self._sizes[ref]]]
        return self.put(("join", ref, other, tuple(rows)))
