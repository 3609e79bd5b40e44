"""The ops of joints: what may be told to each, and how many parts each wants."""

MODULUS = 1000003
LONGEST_ROW = 64
LONGEST_WORD = 8
MOST_TIMES = 16
LETTERS = "abcdefghijklmnopqrstuvwxyz"

# The least and the greatest number of parts of each op.
PARTS = {
    "row": (0, 0),
    "in": (0, 0),
    "rev": (1, 1),
    "sort": (1, 1),
    "sum": (1, 1),
    "top": (1, 1),
    "add": (2, 2),
    "sub": (2, 2),
    "mul": (2, 2),
    "dot": (2, 2),
    "cat": (1, 4),
    "outer": (2, 2),
    "blend": (2, 2),
    "part": (1, 1),
    "rep": (1, 1),
    "hold": (1, 1),
}


def is_number(thing):
    """Whether a thing is a number; True and False are none."""
    return isinstance(thing, int) and not isinstance(thing, bool)


def is_count(thing):
    """Whether a thing is a number from 0 on."""
    return is_number(thing) and thing >= 0


def is_between(thing, least, most):
    """Whether a thing is a number from least to most."""
    return is_number(thing) and least <= thing <= most


def are_row_numbers(things):
    """Whether all of the things are numbers of a row."""
    return all([is_between(thing, 0, MODULUS - 1) for thing in things])


def is_word(thing):
    """Whether a thing is a text that may be the name of an input."""
    if not isinstance(thing, str) or not 1 <= len(thing) <= LONGEST_WORD:
        return False
    return all([sign in LETTERS for sign in thing])


def tells_row(told):
    """Whether told is the row of a joint "row"."""
    return 1 <= len(told) <= LONGEST_ROW and are_row_numbers(told)


def tells_input(told):
    """Whether told is the name and the size of an input."""
    return len(told) == 2 and is_word(told[0]) and is_between(told[1], 1, LONGEST_ROW)


def tells_stretch(told):
    """Whether told are the two ends of a part."""
    if len(told) != 2 or not is_between(told[1], 0, LONGEST_ROW):
        return False
    return is_between(told[0], 0, told[1] - 1)


def tells_times(told):
    """Whether told is how many times a row is repeated."""
    return len(told) == 1 and is_between(told[0], 1, MOST_TIMES)


def tells_room(told):
    """Whether told is the room of a "hold"."""
    return len(told) == 1 and is_between(told[0], 0, LONGEST_ROW)


# All other ops are told nothing.
TELLS = {
    "row": tells_row,
    "in": tells_input,
    "part": tells_stretch,
    "rep": tells_times,
    "hold": tells_room,
}


def told_fits(op, told):
    """Whether the text op is an op, and the tuple told has the form that it wants."""
    if op not in PARTS:
        return False
    if op not in TELLS:
        return len(told) == 0
    fits = TELLS[op]
    return fits(told)


def parts_fit(op, many):
    """Whether an op may have so many parts."""
    least, most = PARTS[op]
    return least <= many <= most
