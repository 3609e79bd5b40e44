"""Rows of code: which are of form, and which cells they read and write."""

from hillrooms.errors import Refused
from hillrooms.measures import room_of, size_of
from hillrooms.ops import LONGEST_ROW, is_between, is_number, parts_fit, told_fits
from hillrooms.sizes import checked_size

MOST_CELLS = 10000


def is_place(thing):
    """Whether a thing may be the first cell of a stretch."""
    return is_between(thing, 0, MOST_CELLS)


def is_stretch(place, k):
    """Whether these may be the place and the size of a value."""
    return is_place(place) and is_between(k, 1, LONGEST_ROW)


def row_fits(row):
    """Whether a triple that begins with "row" is of form."""
    _, at, numbers = row
    return is_place(at) and isinstance(numbers, tuple) and told_fits("row", numbers)


def input_fits(row):
    """Whether a quadruple that begins with "in" is of form."""
    _, at, name, k = row
    return is_place(at) and told_fits("in", (name, k))


def are_parts(things):
    """Whether a thing is a tuple of pairs of a place and a size."""
    if not isinstance(things, tuple):
        return False
    return all([isinstance(thing, tuple) and len(thing) == 2 and is_stretch(thing[0], thing[1]) for thing in things])


def does(op, told, parts):
    """Whether these may be the op, the told things and the parts of a "do"."""
    if not isinstance(op, str) or op in ("row", "in") or not isinstance(told, tuple):
        return False
    return told_fits(op, told) and are_parts(parts) and parts_fit(op, len(parts))


def sizes_fit(op, told, part_sizes):
    """Whether sizes lets such a joint have parts of these sizes."""
    try:
        checked_size(op, told, part_sizes, 0)
    except Refused:
        return False
    return True


def do_fits(row):
    """Whether a tuple of seven that begins with "do" is of form."""
    _, op, told, parts, at, room_at, room = row
    if not does(op, told, parts) or not is_place(at) or not is_place(room_at):
        return False
    part_sizes = [k for _, k in parts]
    return sizes_fit(op, told, part_sizes) and is_number(room) and room == room_of(op, told, part_sizes)


def move_fits(row):
    """Whether a quadruple that begins with "move" is of form."""
    _, here, there, k = row
    return is_place(here) and is_stretch(there, k)


def out_fits(row):
    """Whether a triple that begins with "out" is of form."""
    _, at, k = row
    return is_stretch(at, k)


LENGTHS = {"row": 3, "in": 4, "do": 7, "move": 4, "out": 3}

FORMS = {"row": row_fits, "in": input_fits, "do": do_fits, "move": move_fits, "out": out_fits}


def is_code_row(thing):
    """Whether a thing is a row of form."""
    if not isinstance(thing, tuple) or len(thing) == 0 or not isinstance(thing[0], str):
        return False
    kind = thing[0]
    if kind not in FORMS or len(thing) != LENGTHS[kind]:
        return False
    fits = FORMS[kind]
    return fits(thing)


def read_stretches(row):
    """The stretches (place, cells) that a row of form reads."""
    kind = row[0]
    if kind == "do":
        return row[3]
    if kind == "move":
        return ((row[1], row[3]),)
    if kind == "out":
        return ((row[1], row[2]),)
    return ()


def written_stretches(row):
    """The stretches that a row of form writes, that of its value first, then that of its room."""
    kind = row[0]
    if kind == "row":
        return ((row[1], len(row[2])),)
    if kind == "in":
        return ((row[1], row[3]),)
    if kind == "move":
        return ((row[2], row[3]),)
    if kind == "do":
        _, op, told, parts, at, room_at, room = row
        return ((at, size_of(op, told, [k for _, k in parts])), (room_at, room))
    return ()


def cells_of(stretches):
    """All cells of some stretches, one behind the other."""
    return [cell for place, cells in stretches for cell in range(place, place + cells)]
