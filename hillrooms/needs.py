"""What the steps of joints need by themselves."""

from hillrooms.joints import part_numbers
from hillrooms.rooms import rooms
from hillrooms.sizes import sizes


def own_needs(program):
    """For each joint the sizes of its parts, its room and its size together."""
    size = sizes(program)
    room = rooms(program)
    found = []
    for number, parts in enumerate(part_numbers(program)):
        found.append(sum([size[part] for part in parts]) + room[number] + size[number])
    return tuple(found)
