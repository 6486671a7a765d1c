"""Shelves: named machines, judges, circuits and formulas, with steps that can be undone."""

from onlyahead.build import build
from onlyahead.errors import InvalidName, NothingLeft, TooMany, UnknownName, WrongKind
from onlyahead.formulas import Formula
from onlyahead.machines import Judge, Machine
from onlyahead.parting import first_difference

MOST_SIGNS = 8


def is_name(value):
    """Whether any value is a name of 1 to 8 lowercase letters."""
    if not isinstance(value, str) or not 1 <= len(value) <= MOST_SIGNS:
        return False
    return all(["a" <= sign <= "z" for sign in value])


def kind_of(thing):
    """The kind of a thing."""
    if isinstance(thing, Judge):
        return "judge"
    if isinstance(thing, Machine):
        return "machine"
    return "formula" if isinstance(thing, Formula) else "circuit"


def shelf_of(things):
    """A shelf with the things of a dict by name, without steps."""
    shelf = Shelf()
    shelf._things = dict(things)
    return shelf


class Shelf:
    """A shelf of things by name, in the order in which they came."""

    MOST = 20

    def __init__(self):
        self._things = {}
        # Steps that can be undone and redone: the names that are touched, and the things ahead and behind.
        self._done = []
        self._undone = []
        self._kept = {}
        self._computed = 0

    @property
    def computed(self):
        """How many first differences were computed."""
        return self._computed

    def put(self, name, thing):
        """Sets a thing under a name."""
        self._check_free(name)
        things = dict(self._things)
        things[name] = thing
        self._step([name], things)

    def remove(self, name):
        """Removes the thing under a name."""
        self._check_known(name)
        self._step([name], {other: thing for other, thing in self._things.items() if other != name})

    def rename(self, name, fresh):
        """Gives the thing under a name a fresh name, at the same place."""
        self._check_known(name)
        if not is_name(fresh) or fresh in self._things:
            raise InvalidName(fresh)
        self._step([name, fresh], {fresh if other == name else other: thing for other, thing in self._things.items()})

    def names(self, *kinds):
        """The list of the names of things of some kinds, or of all without any."""
        return [name for name, thing in self._things.items() if not kinds or kind_of(thing) in kinds]

    def kind(self, name):
        """The kind of the thing under a name."""
        return kind_of(self[name])

    def undo(self):
        """Takes the last step back."""
        if not self._done:
            raise NothingLeft()
        names, ahead, behind = self._done.pop()
        self._undone.append((names, ahead, behind))
        self._show(names, ahead)

    def redo(self):
        """Makes the last step that was undone again."""
        if not self._undone:
            raise NothingLeft()
        names, ahead, behind = self._undone.pop()
        self._done.append((names, ahead, behind))
        self._show(names, behind)

    def history(self):
        """The pair of the numbers of steps that can be undone and redone."""
        return len(self._done), len(self._undone)

    def build(self, name, fresh, *primes):
        """Builds the machine under a name, and sets the circuit under a fresh name if there is one."""
        machine = self[name]
        if not isinstance(machine, Machine):
            raise WrongKind(name)
        answer = build(machine, *primes)
        self._check_free(fresh)
        if answer.is_built:
            self.put(fresh, answer.circuit)
        return answer

    def difference(self, one, other):
        """The first word that just one of two judges under names accepts, or None."""
        judges = []
        for name in [one, other]:
            judge = self[name]
            if not isinstance(judge, Judge):
                raise WrongKind(name)
            judges.append(judge)
        if (one, other) not in self._kept:
            self._kept[one, other] = first_difference(judges[0], judges[1])
            self._computed = self._computed + 1
        return self._kept[one, other]

    def kept(self):
        """The ascending list of the pairs of names whose first differences are kept."""
        return sorted(list(self._kept))

    def twin(self):
        """An independent shelf that is like this one."""
        other = Shelf()
        other._things = dict(self._things)
        other._done = list(self._done)
        other._undone = list(self._undone)
        other._kept = {pair: word for pair, word in self._kept.items()}
        other._computed = self._computed
        return other

    def _check_known(self, name):
        """Raises an error if nothing stands under a name."""
        if name not in self:
            raise UnknownName(name)

    def _check_free(self, name):
        """Raises an error if nothing can be set under a name."""
        if not is_name(name):
            raise InvalidName(name)
        if name not in self._things and len(self._things) == self.MOST:
            raise TooMany("things", self.MOST)

    def _step(self, names, things):
        """Makes a step that touches some names and leads to these things."""
        self._done.append((names, self._things, things))
        self._undone = []
        self._show(names, things)

    def _show(self, names, things):
        """Puts these things on the shelf, and forgets the differences of the names that are touched."""
        self._things = things
        self._kept = {pair: word for pair, word in self._kept.items() if pair[0] not in names and pair[1] not in names}

    def __getitem__(self, name):
        if name not in self:
            raise UnknownName(name)
        return self._things[name]

    def __setitem__(self, name, thing):
        self.put(name, thing)

    def __contains__(self, name):
        return isinstance(name, str) and name in self._things

    def __iter__(self):
        raise TypeError("ask a shelf for its names")

    def __len__(self):
        return len(self._things)

    def __eq__(self, other):
        return isinstance(other, Shelf) and list(self._things.items()) == list(other._things.items())

    def __repr__(self):
        return f"Shelf({len(self._things)} names)"
