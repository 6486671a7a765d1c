"""What kind of value a value is."""


def is_number(value):
    """Whether any value is an integer from 0 on; a boolean is no number."""
    return isinstance(value, int) and not isinstance(value, bool) and value >= 0


def is_below(value, bound):
    """Whether any value is a number that is less than the bound."""
    return is_number(value) and value < bound


def is_listed(value):
    """Whether any value may stand where a list is documented."""
    return isinstance(value, (list, tuple))
