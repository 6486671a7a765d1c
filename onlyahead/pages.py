"""Pages: shelves, written as texts."""

from onlyahead.circuits import Circuit
from onlyahead.errors import InvalidPage, InvalidText
from onlyahead.formulas import Formula
from onlyahead.machines import Judge, Machine
from onlyahead.shelf import Shelf, is_name, shelf_of

SIGN = "="
HEAD = "= "


def write_page(shelf):
    """The page of a shelf."""
    rows = []
    for name in shelf.names():
        rows.append(HEAD + name)
        rows.extend(shelf[name].text.split("\n"))
    return "".join([row + "\n" for row in rows])


def read_page(text):
    """The shelf whose page a text is."""
    if not isinstance(text, str):
        raise InvalidPage(0)
    rows = text.split("\n")
    if rows[-1] == "":
        return read_rows(rows[:-1])
    # The last row lacks its line feed: so it is wrong, unless one ahead of it is.
    last = len(rows) - 1
    try:
        read_rows(rows)
    except InvalidPage as wrong:
        raise InvalidPage(min(wrong.row, last)) from None
    raise InvalidPage(last)


def read_rows(rows):
    """The shelf whose page has these rows."""
    things = {}
    heads = [at for at, row in enumerate(rows) if row.startswith(SIGN)]
    if rows and (not heads or heads[0] != 0):
        raise InvalidPage(0)
    for head, end in zip(heads, [*heads[1:], len(rows)]):
        # Where the head is another one, the sign stays, and no name has it.
        name = rows[head].removeprefix(HEAD)
        if not is_name(name) or name in things or len(things) == Shelf.MOST:
            raise InvalidPage(head)
        things[name] = read_thing(rows, head + 1, end)
    return shelf_of(things)


def read_thing(rows, start, end):
    """The thing whose text stands in the rows from the start on, up to the one ahead of the end."""
    text = "\n".join(rows[start:end])
    try:
        return thing_of(text)
    except InvalidText as wrong:
        raise InvalidPage(start + wrong.row) from None


def thing_of(text):
    """The thing that is written in a text of any kind."""
    kind = text.split("\n")[0].split(" ")[0]
    if kind == "machine":
        return Machine.read(text)
    if kind == "judge":
        return Judge.read(text)
    if kind == "circuit":
        return Circuit.read(text)
    if kind == "formula":
        return Formula.read(text)
    raise InvalidText(0)
