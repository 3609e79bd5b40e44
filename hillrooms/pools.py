"""Layings in pools of blocks of one size."""

from hillrooms.heights import heights
from hillrooms.joints import part_numbers
from hillrooms.rooms import rooms
from hillrooms.sizes import sizes


def take(taken, cells):
    """Take the least free block of so many cells; returns its index in its pool."""
    pool = taken.setdefault(cells, [])
    # A pool grows only when all of its blocks are held: it never has more than are held at once.
    if False not in pool:
        pool.append(False)
    index = pool.index(False)
    pool[index] = True
    return index


def block_steps(program, order):
    """Triples (joint, block of its value, block of its room), and how many blocks each pool has."""
    size = sizes(program)
    room = rooms(program)
    parts = part_numbers(program)
    taken = {}
    blocks = [0] * len(parts)
    found = []
    for number in order:
        blocks[number] = take(taken, size[number])
        room_block = take(taken, room[number])
        found.append((number, blocks[number], room_block))
        taken[room[number]][room_block] = False
        for part in parts[number]:
            taken[size[part]][blocks[part]] = False
    return found, {cells: len(pool) for cells, pool in taken.items()}


def pool_places(many):
    """The first cell of each pool, by how many blocks each has."""
    found = {}
    free = 0
    # The blocks of no cells that rooms of 0 take come first, so all of them have the place 0.
    for cells in sorted(many):
        found[cells] = free
        free += cells * many[cells]
    return found


def pools(program, order):
    """The laying of an order in blocks."""
    # Refused sizes and orders come first.
    heights(program, order)
    size = sizes(program)
    room = rooms(program)
    steps, many = block_steps(program, order)
    first = pool_places(many)
    found = []
    for number, block, room_block in steps:
        place = first[size[number]] + block * size[number]
        room_place = first[room[number]] + room_block * room[number]
        found.append((number, place, room_place, ()))
    return tuple(found)


def pool_heap(program, order):
    """How many cells all blocks have."""
    heights(program, order)
    _, many = block_steps(program, order)
    return sum([cells * blocks for cells, blocks in many.items()])
