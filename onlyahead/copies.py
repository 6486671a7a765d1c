"""Copies of lists."""


def copied(value):
    """Any value, with copies of the lists within it; they are looked for in lists and tuples."""
    if not has_list(value):
        return value
    parts = [copied(item) for item in value]
    return parts if isinstance(value, list) else tuple(parts)


def has_list(value):
    """Whether any value is a list, or a tuple in which there is one."""
    if isinstance(value, tuple):
        return any([has_list(item) for item in value])
    return isinstance(value, list)
