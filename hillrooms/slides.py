"""Layings in which held values are slid down to make room."""

from hillrooms.heights import peak
from hillrooms.joints import part_numbers
from hillrooms.rooms import rooms
from hillrooms.sizes import sizes


def top_of(places, size):
    """The first cell above the topmost held value, where places has the held joints."""
    return max([place + size[joint] for joint, place in places.items()], default=0)


def slide_down(places, size):
    """Lay the held values side by side from cell 0 on; returns the moves that this takes."""
    moves = []
    free = 0
    # Each value is laid above all others: the dict has them in order of their places.
    for joint in list(places):
        if places[joint] != free:
            places[joint] = free
            moves.append((joint, free))
        free += size[joint]
    return tuple(moves)


def slid(program, order):
    """The laying of an order in a heap of as many cells as its peak."""
    heap = peak(program, order)
    size = sizes(program)
    room = rooms(program)
    parts = part_numbers(program)
    places = {}
    found = []
    for number in order:
        moves = ()
        if heap - top_of(places, size) < size[number] + room[number]:
            moves = slide_down(places, size)
        place = top_of(places, size)
        room_place = place + size[number] if room[number] > 0 else 0
        found.append((number, place, room_place, moves))
        places[number] = place
        for part in parts[number]:
            del places[part]
    return tuple(found)
