"""Programs with one place changed, and the rows of boughs worked out anew for them."""

from hillrooms.joints import above, joints, part_numbers
from hillrooms.least import bough_row
from hillrooms.needs import own_needs
from hillrooms.sizes import sizes


def with_bough(program, number, thing):
    """The program with a thing in the place of the bough of a joint; it may be none then."""
    all_joints = joints(program)
    wholes = above(program)
    parts = part_numbers(program)
    while number > 0:
        whole = wholes[number]
        op, told, _ = all_joints[whole]
        beneath = [thing if part == number else all_joints[part] for part in parts[whole]]
        thing = (op, told, tuple(beneath))
        number = whole
    return thing


def with_told(program, number, told):
    """The program with other told things at a joint; it may be none then."""
    op, _, parts = joints(program)[number]
    return with_bough(program, number, (op, told, parts))


def line_above(program, number):
    """The numbers of all joints above a joint."""
    wholes = above(program)
    found = []
    while number > 0:
        number = wholes[number]
        found.append(number)
    return found


def shifted(row, by):
    """A row with other numbers of joints."""
    return tuple([(hill, valley, tuple([joint + by for joint in steps])) for hill, valley, steps in row])


def own_rows(program, kept):
    """For each joint the row of its bough, its steps counted from the joint itself; and how many were worked out.

    Counted so, a row stays the same wherever its bough stands: kept is a dict of
    those that are known, and only the others are worked out.
    """
    size = sizes(program)
    needs = own_needs(program)
    parts = part_numbers(program)
    found = [kept.get(number, ()) for number in range(len(parts))]
    looks = 0
    for number in reversed(range(len(parts))):
        if number not in kept:
            beneath = [shifted(found[part], part - number) for part in parts[number]]
            found[number] = bough_row(beneath, needs[number], size[number], 0)
            looks += 1
    return tuple(found), looks
