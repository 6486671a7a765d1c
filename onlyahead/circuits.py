"""Circuits: lists of lines in which each line uses only earlier ones."""

from onlyahead.circuit_lines import is_cell, measured
from onlyahead.circuit_steps import Steps
from onlyahead.circuit_texts import read_circuit, written_circuit
from onlyahead.errors import InvalidAlphabet, InvalidLine, InvalidText, InvalidWord, TooMany
from onlyahead.kinds import is_below, is_listed
from onlyahead.letters import is_alphabet, is_word


class Circuit:
    """A circuit: it reads words, and its last line has a value after each word."""

    MOST = 4000

    def __init__(self, alphabet, lines):
        if not is_alphabet(alphabet):
            raise InvalidAlphabet(alphabet)
        if not is_listed(lines) or not lines:
            raise InvalidLine(0)
        if len(lines) > self.MOST:
            raise TooMany("lines", self.MOST)
        sizes, looks = measured(lines, len(alphabet))
        self._alphabet = alphabet
        self._lines = list(lines)
        self._sizes = sizes
        self._looks = looks
        self._steps = Steps(self._lines)

    @property
    def alphabet(self):
        """The alphabet."""
        return self._alphabet

    @property
    def cells(self):
        """The ascending list of the indexes of the cells."""
        return [at for at, line in enumerate(self._lines) if is_cell(line)]

    @property
    def primes(self):
        """The ascending list of the primes of the counters, each once."""
        return sorted(set([line[1] for line in self._lines if line[0] == "counter"]))

    @property
    def text(self):
        """The text from which read makes an equal circuit."""
        return written_circuit(self._alphabet, self._lines)

    @classmethod
    def read(cls, text):
        """The circuit that is written in a text."""
        alphabet, lines = read_circuit(text)
        if not lines:
            raise InvalidText(0)
        # A wrong line is told even where there are too many of them, so all are looked at first.
        try:
            measured(lines, len(alphabet))
        except InvalidLine as wrong:
            raise InvalidText(wrong.at + 1) from None
        if len(lines) > cls.MOST:
            raise InvalidText(0)
        return cls(alphabet, lines)

    def lines(self):
        """The list of the lines."""
        return list(self._lines)

    def sizes(self):
        """The list of the sizes of the lines."""
        return list(self._sizes)

    def after(self, word):
        """The value after a word."""
        return self._steps.last_value(self.sides_after(word))

    def sides_after(self, word):
        """The list of the sides of all cells after a word, in order."""
        if not is_word(self._alphabet, word):
            raise InvalidWord(word)
        sides = self._steps.first_sides()
        for letter in word:
            sides = self._steps.next_sides(sides, self._alphabet.index(letter))
        return sides

    def looks(self, line):
        """Whether a line looks at the letter."""
        if not is_below(line, len(self._lines)):
            raise InvalidLine(line)
        return self._looks[line]

    def listing(self):
        """The list of strings that tell the index, the kind and the size of each line, in columns."""
        return [
            f"{at:>4} {line[0]:<8} {size:>4}" for at, (line, size) in enumerate(zip(self._lines, self._sizes))
        ]

    def __len__(self):
        return len(self._lines)

    def __eq__(self, other):
        return isinstance(other, Circuit) and self._alphabet == other._alphabet and self._lines == other._lines

    def __repr__(self):
        return f"Circuit({len(self._lines)} lines)"
