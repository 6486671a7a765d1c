"""The errors of the package, one class for each kind of failure."""


class AheadError(ValueError):
    """What a caller passed is not what is asked for."""


class InvalidAlphabet(AheadError):
    """A value that is no alphabet."""

    def __init__(self, given):
        self.given = given
        self.code = "InvalidAlphabet"


class InvalidWord(AheadError):
    """A value that is no word over the alphabet."""

    def __init__(self, given):
        self.given = given
        self.code = "InvalidWord"


class InvalidLetter(AheadError):
    """A value that is no letter of the alphabet."""

    def __init__(self, given):
        self.given = given
        self.code = "InvalidLetter"


class InvalidState(AheadError):
    """A value that is no state of the machine."""

    def __init__(self, given):
        self.given = given
        self.code = "InvalidState"


class InvalidRows(AheadError):
    """Rows that make no machine: at is the index of the first one that is none."""

    def __init__(self, at):
        self.at = at
        self.code = "InvalidRows"


class InvalidLine(AheadError):
    """Lines that cannot stand: at is the index of the first such one."""

    def __init__(self, at):
        self.at = at
        self.code = "InvalidLine"


class InvalidPrime(AheadError):
    """A value that is no prime from 2 to 97."""

    def __init__(self, given):
        self.given = given
        self.code = "InvalidPrime"


class InvalidSet(AheadError):
    """A value that is no set of reachable states."""

    def __init__(self, given):
        self.given = given
        self.code = "InvalidSet"


class InvalidText(AheadError):
    """A text that cannot be read: row is the index of the row that is wrong."""

    def __init__(self, row):
        self.row = row
        self.code = "InvalidText"


class InvalidPage(AheadError):
    """A page that cannot be read: row is the index of the row that is wrong."""

    def __init__(self, row):
        self.row = row
        self.code = "InvalidPage"


class InvalidName(AheadError):
    """A value that is no name, or not a free one."""

    def __init__(self, given):
        self.given = given
        self.code = "InvalidName"


class InvalidLimit(AheadError):
    """A value that is no limit of a run."""

    def __init__(self, given):
        self.given = given
        self.code = "InvalidLimit"


class WrongKind(AheadError):
    """A name under which a thing of another kind stands."""

    def __init__(self, name):
        self.name = name
        self.code = "WrongKind"


class AlphabetsDiffer(AheadError):
    """Two things over unlike alphabets."""

    def __init__(self):
        self.code = "AlphabetsDiffer"


class TooMany(AheadError):
    """More of a subject than may be."""

    def __init__(self, subject, most):
        self.subject = subject
        self.most = most
        self.code = "TooMany"


class Barred(AheadError):
    """A formula that cannot be built: answer tells why."""

    def __init__(self, answer):
        self.answer = answer
        self.code = "Barred"


class Missing(LookupError):
    """What a caller asks for is not there."""


class UnknownName(Missing):
    """A name that does not stand here."""

    def __init__(self, name):
        self.name = name
        self.code = "UnknownName"


class NothingLeft(IndexError):
    """Nothing is left to take back, to give again or to tell of."""

    def __init__(self):
        self.code = "NothingLeft"
