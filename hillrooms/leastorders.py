"""Orders with the least peak."""

from hillrooms.least import row_of


def least_order(program):
    """An order of the program with the least peak."""
    return tuple([step for _, _, steps in row_of(program, 0) for step in steps])
