"""Formulas about the past: lists of lines, each true or not true at each moment of a word."""

from onlyahead.errors import AlphabetsDiffer, InvalidAlphabet, InvalidLine, InvalidText, InvalidWord, TooMany
from onlyahead.formula_lines import check_lines, last_truths, moved_line
from onlyahead.formula_texts import read_formula, written_formula
from onlyahead.kinds import is_listed
from onlyahead.letters import is_alphabet, is_word


class Formula:
    """A formula: it accepts the words at whose last moment its last line is true, and the empty one by its first."""

    MOST = 4000

    def __init__(self, alphabet, lines, *, first=False):
        if not is_alphabet(alphabet):
            raise InvalidAlphabet(alphabet)
        if not is_listed(lines) or not lines:
            raise InvalidLine(0)
        if len(lines) > self.MOST:
            raise TooMany("lines", self.MOST)
        check_lines(alphabet, lines)
        self._alphabet = alphabet
        self._lines = list(lines)
        self._first = first

    @property
    def alphabet(self):
        """The alphabet."""
        return self._alphabet

    @property
    def first(self):
        """Whether the formula accepts the empty word."""
        return self._first

    @property
    def text(self):
        """The text from which read makes an equal formula."""
        return written_formula(self._alphabet, self._lines, self._first)

    @classmethod
    def read(cls, text):
        """The formula that is written in a text."""
        alphabet, lines, first = read_formula(text)
        if not lines:
            raise InvalidText(0)
        # A wrong line is told even where there are too many of them, so all are looked at first.
        try:
            check_lines(alphabet, lines)
        except InvalidLine as wrong:
            raise InvalidText(wrong.at + 1) from None
        if len(lines) > cls.MOST:
            raise InvalidText(0)
        return cls(alphabet, lines, first=first)

    def lines(self):
        """The list of the lines."""
        return list(self._lines)

    def truths(self, word):
        """The list of the truths of all lines at the last moment of a word."""
        if not is_word(self._alphabet, word) or not word:
            raise InvalidWord(word)
        return last_truths(self._lines, word)

    def _both_lines(self, other, kind):
        """The lines of both formulas and behind them a line of this kind over the last lines of both."""
        if self._alphabet != other._alphabet:
            raise AlphabetsDiffer()
        behind = len(self._lines)
        lines = self._lines + [moved_line(line, behind) for line in other._lines]
        return [*lines, (kind, (behind - 1, len(lines) - 1))]

    def __contains__(self, word):
        if not is_word(self._alphabet, word):
            return False
        return last_truths(self._lines, word)[-1] if word else self._first

    def __and__(self, other):
        lines = self._both_lines(other, "and")
        return Formula(self._alphabet, lines, first=self._first and other._first)

    def __or__(self, other):
        lines = self._both_lines(other, "or")
        return Formula(self._alphabet, lines, first=self._first or other._first)

    def __neg__(self):
        lines = [*self._lines, ("not", len(self._lines) - 1)]
        return Formula(self._alphabet, lines, first=not self._first)

    def __len__(self):
        return len(self._lines)

    def __eq__(self, other):
        return (
            isinstance(other, Formula)
            and self._alphabet == other._alphabet
            and self._lines == other._lines
            and self._first == other._first
        )

    def __repr__(self):
        return f"Formula({len(self._lines)} lines)"
