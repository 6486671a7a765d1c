"""Machines, and judges: machines with accepted states."""

from onlyahead.errors import AlphabetsDiffer, InvalidAlphabet, InvalidRows, InvalidState, InvalidWord, TooMany
from onlyahead.kinds import is_below, is_listed
from onlyahead.least import least_parts, reached_parts
from onlyahead.letters import is_alphabet, is_word
from onlyahead.machine_texts import read_judge, read_machine, written
from onlyahead.walks import first_steps, first_word_to, led_by, pair_rows


def is_row(value, letters, states):
    """Whether any value is a row of a machine with this many letters and states."""
    return isinstance(value, tuple) and len(value) == letters and all([is_below(item, states) for item in value])


def states_with(truth, truths):
    """The ascending list of the states that have this truth in a list with a truth for each state."""
    return [state for state, found in enumerate(truths) if found == truth]


class Machine:
    """A machine: it reads words and has a state after each word."""

    MOST = 1000

    def __init__(self, alphabet, rows, *, start=0):
        if not is_alphabet(alphabet):
            raise InvalidAlphabet(alphabet)
        if not is_listed(rows) or not rows:
            raise InvalidRows(0)
        if len(rows) > self.MOST:
            raise TooMany("states", self.MOST)
        for at, row in enumerate(rows):
            if not is_row(row, len(alphabet), len(rows)):
                raise InvalidRows(at)
        if not is_below(start, len(rows)):
            raise InvalidState(start)
        self._alphabet = alphabet
        self._rows = list(rows)
        self._start = start
        # A judge has a list here, with a truth for each state: whether it is accepted.
        self._accepts = None

    @property
    def alphabet(self):
        """The alphabet."""
        return self._alphabet

    @property
    def start(self):
        """The start state."""
        return self._start

    @property
    def text(self):
        """The text from which read makes an equal machine or judge."""
        return written(self._alphabet, self._start, self._rows, self._accepts)

    @classmethod
    def read(cls, text):
        """The machine that is written in a text."""
        alphabet, start, rows = read_machine(text, cls.MOST)
        return cls(alphabet, rows, start=start)

    def rows(self):
        """The list of the rows."""
        return list(self._rows)

    def after(self, word):
        """The state after a word."""
        return self.led(self._start, word)

    def led(self, state, word):
        """The state to which a word leads from a state."""
        if not is_below(state, len(self._rows)):
            raise InvalidState(state)
        if not is_word(self._alphabet, word):
            raise InvalidWord(word)
        return led_by(self._rows, self._alphabet, state, word)

    def reachable(self):
        """The ascending list of the reachable states."""
        return sorted(list(first_steps(self._rows, self._start)))

    def first_word(self, state):
        """The first word after which the machine has this state, or None."""
        if not is_below(state, len(self._rows)):
            raise InvalidState(state)
        return first_word_to(self._rows, self._alphabet, self._start, state)

    def __len__(self):
        return len(self._rows)

    def __eq__(self, other):
        return (
            isinstance(other, Machine)
            and self._alphabet == other._alphabet
            and self._rows == other._rows
            and self._start == other._start
            and self._accepts == other._accepts
        )

    def __repr__(self):
        return f"Machine({len(self._rows)} states)"


class Judge(Machine):
    """A judge: it accepts the words after which its state is one of the accepted states."""

    def __init__(self, alphabet, rows, accepted, *, start=0):
        super().__init__(alphabet, rows, start=start)
        if not is_listed(accepted):
            raise InvalidState(accepted)
        for state in accepted:
            if not is_below(state, len(rows)):
                raise InvalidState(state)
        chosen = set(accepted)
        self._accepts = [state in chosen for state in range(len(rows))]

    @classmethod
    def read(cls, text):
        """The judge that is written in a text."""
        alphabet, start, rows, accepted = read_judge(text, cls.MOST)
        return cls(alphabet, rows, accepted, start=start)

    def accepted(self):
        """The ascending list of the accepted states."""
        return states_with(True, self._accepts)

    def least(self):
        """The judge with the fewest states that accepts the same words."""
        rows, accepts = reached_parts(self._rows, self._accepts, self._start)
        return self._least_of(rows, accepts)

    def within(self, other):
        """Whether the judge other accepts each word that this one accepts."""
        _, truths = self._paired(other)
        return all([theirs or not ours for ours, theirs in truths])

    def _least_of(self, rows, accepts):
        """The least judge of one whose states are all reachable, in the order of their first words."""
        fresh_rows, fresh_accepts = least_parts(rows, accepts, self.MOST)
        return Judge(self._alphabet, fresh_rows, states_with(True, fresh_accepts))

    def _paired(self, other):
        """The rows of the machine that runs both judges, and for each of its states what both say."""
        if self._alphabet != other._alphabet:
            raise AlphabetsDiffer()
        # Least judges have the fewest pairs.
        one = self.least()
        two = other.least()
        pairs, rows = pair_rows(one._rows, two._rows, (0, 0))
        return rows, [(one._accepts[ours], two._accepts[theirs]) for ours, theirs in pairs]

    def __contains__(self, word):
        return is_word(self._alphabet, word) and self._accepts[self.after(word)]

    def __and__(self, other):
        rows, truths = self._paired(other)
        return self._least_of(rows, [ours and theirs for ours, theirs in truths])

    def __or__(self, other):
        rows, truths = self._paired(other)
        return self._least_of(rows, [ours or theirs for ours, theirs in truths])

    def __neg__(self):
        least = self.least()
        return Judge(self._alphabet, least._rows, states_with(False, least._accepts))

    def __repr__(self):
        return f"Judge({len(self._rows)} states)"
