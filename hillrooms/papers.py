"""Papers: an order with the rows that show that no order has a lesser peak."""

from hillrooms.heights import greatest_needed, heights
from hillrooms.least import bough_rows
from hillrooms.leastorders import least_order
from hillrooms.orders import is_order


def pair_rows(program):
    """For each joint the row of its bough in pairs."""
    return tuple([tuple([(hill, valley) for hill, valley, _ in row]) for row in bough_rows(program)])


def paper(program):
    """The paper with the least order."""
    rows = pair_rows(program)
    order = least_order(program)
    return greatest_needed(heights(program, order)), order, rows


def paper_right(program, peak, order, rows):
    """Whether these are the three things of a right paper."""
    # Rows that are each made of the rows of the parts are all alike, from the leaves on.
    if not is_order(program, order) or rows != pair_rows(program):
        return False
    return peak == rows[0][0][0] and peak == greatest_needed(heights(program, order))
