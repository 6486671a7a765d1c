"""Runs: a circuit takes letters one by one, and letters can be taken back and given again."""

from onlyahead.circuit_steps import Steps
from onlyahead.errors import (
    AlphabetsDiffer,
    InvalidLetter,
    InvalidLimit,
    InvalidWord,
    NothingLeft,
    TooMany,
    UnknownName,
)
from onlyahead.kinds import is_below
from onlyahead.letters import is_word


class Run:
    """A run of a circuit, with the letters that it has taken so far."""

    MOST = 1000

    def __init__(self, circuit, *, limit=100):
        self._source = circuit
        self._so_far = ""
        # The letters that were taken back, the last one of them at the end.
        self._gone = ""
        self._marks = {}
        self._watched = []
        self._busy = False
        self._steps = Steps(circuit.lines())
        # The sides ahead of all letters, and then behind each of them.
        self._trail = [self._steps.first_sides()]
        self._value = self._steps.last_value(self._trail[-1])
        self.set_limit(limit)

    @property
    def source(self):
        """The circuit."""
        return self._source

    @property
    def so_far(self):
        """The word of the letters."""
        return self._so_far

    @property
    def value(self):
        """The value of the circuit after the letters."""
        return self._value

    @property
    def sides(self):
        """The list of the sides of the cells after the letters."""
        return list(self._trail[-1])

    @property
    def busy(self):
        """Whether letters are being fed."""
        return self._busy

    @property
    def limit(self):
        """How many letters the run may have."""
        return self._limit

    @limit.setter
    def limit(self, value):
        self.set_limit(value)

    def set_limit(self, limit):
        """Changes how many letters the run may have."""
        if not is_below(limit, self.MOST + 1) or limit < 1 or limit < len(self._so_far):
            raise InvalidLimit(limit)
        self._limit = limit

    def feed(self, letter):
        """Takes a letter."""
        if not is_word(self._source.alphabet, letter) or len(letter) != 1:
            raise InvalidLetter(letter)
        self._check_room(1)
        self._take(letter)
        self._gone = ""

    def feed_all(self, word):
        """Takes the letters of a word in order, all or none."""
        if not is_word(self._source.alphabet, word):
            raise InvalidWord(word)
        self._check_room(len(word))
        if word:
            self._take(word)
            self._gone = ""

    def undo(self):
        """Takes the last letter back."""
        if not self._so_far:
            raise NothingLeft()
        self._take_back(1)

    def redo(self):
        """Gives the last letter that was taken back again."""
        if not self._gone:
            raise NothingLeft()
        self._check_room(1)
        self._take(self._gone[-1])
        self._gone = self._gone[:-1]

    def history(self):
        """The pair of the numbers of letters that can be taken back and given again."""
        return len(self._so_far), len(self._gone)

    def mark(self, name):
        """Marks the number of letters by a name."""
        self._marks[name] = len(self._so_far)

    def back(self, name):
        """Takes all letters back behind the number that is marked by a name."""
        if not isinstance(name, str) or name not in self._marks:
            raise UnknownName(name)
        if self._marks[name] > len(self._so_far):
            raise NothingLeft()
        self._take_back(len(self._so_far) - self._marks[name])

    def marks(self):
        """The list of the pairs of a name and the number that it marks."""
        return list(self._marks.items())

    def watch(self, formula):
        """Watches a formula; returns its number."""
        if formula.alphabet != self._source.alphabet:
            raise AlphabetsDiffer()
        self._watched.append(formula)
        return len(self._watched) - 1

    def says(self, number):
        """Whether the watched formula with this number accepts the letters so far."""
        if not is_below(number, len(self._watched)):
            raise NothingLeft()
        return self._so_far in self._watched[number]

    def twin(self):
        """An independent run that is like this one."""
        other = Run(self._source, limit=self._limit)
        other._so_far = self._so_far
        other._gone = self._gone
        other._marks = dict(self._marks)
        other._watched = list(self._watched)
        other._trail = list(self._trail)
        other._value = self._value
        return other

    def _check_room(self, many):
        """Raises an error if there is no room for this many letters."""
        if len(self._so_far) + many > self._limit:
            raise TooMany("letters", self._limit)

    def _take(self, word):
        """Takes letters, for which there is room."""
        self._busy = True
        try:
            for letter in word:
                place = self._source.alphabet.index(letter)
                self._trail.append(self._steps.next_sides(self._trail[-1], place))
                self._so_far = self._so_far + letter
            self._value = self._steps.last_value(self._trail[-1])
        finally:
            self._busy = False

    def _take_back(self, many):
        """Takes this many letters back, the last one first."""
        left = len(self._so_far) - many
        self._gone = self._gone + self._so_far[left:][::-1]
        self._so_far = self._so_far[:left]
        del self._trail[left + 1:]
        self._value = self._steps.last_value(self._trail[-1])

    def __call__(self, letter):
        self.feed(letter)

    def __iadd__(self, other):
        self.feed_all(other)
        return self

    def __len__(self):
        return len(self._so_far)
