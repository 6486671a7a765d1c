"""What kind of value a value is."""


def is_below(value, bound):
    """Whether any value is a number that is less than the bound; a boolean is no number."""
    return isinstance(value, int) and not isinstance(value, bool) and 0 <= value < bound


def is_listed(value):
    """Whether any value may stand where a list is documented."""
    return isinstance(value, (list, tuple))
