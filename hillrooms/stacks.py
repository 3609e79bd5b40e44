"""Layings in two stacks that grow towards each other."""

from hillrooms.errors import NotBranchwise
from hillrooms.heights import peak
from hillrooms.joints import above, part_numbers
from hillrooms.orders import branchwise
from hillrooms.rooms import rooms
from hillrooms.sizes import sizes


def depths(program):
    """For each joint how many joints stand above it."""
    found = []
    for whole in above(program):
        found.append(0 if whole < 0 else found[whole] + 1)
    return tuple(found)


def stacked(program, order):
    """The laying of a branchwise order in a heap of as many cells as its peak."""
    heap = peak(program, order)
    if not branchwise(program, order):
        raise NotBranchwise(0)
    size = sizes(program)
    room = rooms(program)
    depth = depths(program)
    parts = part_numbers(program)
    # How many cells the held values of even and of odd depth have.
    held = [0, 0]
    found = []
    for number in order:
        side = depth[number] & 1
        place = held[0] if side == 0 else heap - held[1] - size[number]
        held[side] += size[number]
        room_place = held[0] if room[number] > 0 else 0
        found.append((number, place, room_place, ()))
        held[1 - side] -= sum([size[part] for part in parts[number]])
    return tuple(found)
