"""The least peak of a program, by rows of hills and valleys."""

from hillrooms.errors import BadJoint
from hillrooms.hills import hills
from hillrooms.joints import part_numbers
from hillrooms.needs import own_needs
from hillrooms.ops import is_between
from hillrooms.sizes import sizes
from hillrooms.weave import weave


def bough_row(rows, need, size, joint):
    """The row of a bough, by the rows of its parts, what its own step needs, and its size."""
    return hills(weave(rows) + ((need, size, (joint,)),))


def bough_rows(program):
    """For each joint the row of its bough."""
    size = sizes(program)
    needs = own_needs(program)
    parts = part_numbers(program)
    found = [()] * len(parts)
    for number in reversed(range(len(parts))):
        beneath = [found[part] for part in parts[number]]
        found[number] = bough_row(beneath, needs[number], size[number], number)
    return tuple(found)


def row_of(program, joint):
    """The row of the bough of a joint."""
    rows = bough_rows(program)
    if not is_between(joint, 0, len(rows) - 1):
        raise BadJoint(joint)
    return rows[joint]


def least_peak(program):
    """The least number of cells with which an order can run the program."""
    return row_of(program, 0)[0][0]
