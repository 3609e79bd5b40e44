"""Several programs in one heap."""

from hillrooms.errors import TooMany
from hillrooms.least import row_of
from hillrooms.programs import MOST_JOINTS
from hillrooms.weave import weave

MOST_PROGRAMS = 6


def named_row(row, index):
    """The row of the program with this index, each of its steps a pair (program, joint)."""
    return tuple([(hill, valley, tuple([(index, joint) for joint in steps])) for hill, valley, steps in row])


def together(programs):
    """The least peak of all programs together, and the order with it."""
    if not 1 <= len(programs) <= MOST_PROGRAMS:
        raise TooMany(len(programs))
    rows = [named_row(row_of(program, 0), index) for index, program in enumerate(programs)]
    woven = weave(rows)
    order = tuple([step for _, _, steps in woven for step in steps])
    if len(order) > MOST_JOINTS:
        raise TooMany(len(order))
    return max([hill for hill, _, _ in woven]), order
