"""The rooms that the joints of a program want."""

from hillrooms.joints import joints, part_numbers
from hillrooms.measures import room_of
from hillrooms.sizes import sizes


def rooms(program):
    """For each joint how many cells it wants while it is made."""
    known = sizes(program)
    found = []
    for joint, parts in zip(joints(program), part_numbers(program)):
        op, told, _ = joint
        found.append(room_of(op, told, [known[part] for part in parts]))
    return tuple(found)
