"""Layings judged."""

from hillrooms.joints import part_numbers
from hillrooms.ops import is_count, is_number
from hillrooms.orders import is_order
from hillrooms.rooms import rooms
from hillrooms.sizes import sizes


def is_step(thing, joint):
    """Whether a thing is a quadruple for the step of a joint, whatever its moves are."""
    if not isinstance(thing, tuple) or len(thing) != 4 or thing[0] != joint:
        return False
    return is_number(thing[1]) and is_number(thing[2]) and isinstance(thing[3], tuple)


def is_move(thing, places):
    """Whether a thing is a move of a held value; places has the held ones."""
    if not isinstance(thing, tuple) or len(thing) != 2:
        return False
    joint, goal = thing
    return is_number(joint) and joint in places and is_number(goal)


def lie_apart(stretches, heap):
    """Whether stretches (place, cells) lie within the heap, and no two have a cell in common."""
    free = 0
    for place, cells in sorted(stretches):
        if place < free:
            return False
        free = place + cells
    return free <= heap


def held_stretches(places, size):
    """The stretches of all held values."""
    return [(place, size[joint]) for joint, place in places.items()]


def move_rightly(moves, places, size, heap):
    """Whether all moves are right; places is changed as they tell."""
    for move in moves:
        if not is_move(move, places):
            return False
        joint, goal = move
        places[joint] = goal
        # All lay apart before, so whatever does not now has to do with the moved value.
        if not lie_apart(held_stretches(places, size), heap):
            return False
    return True


def room_stretches(place, room):
    """The stretch of a room; none for a room of 0, which has no cells."""
    return [(place, room)] if room > 0 else []


def laying_right(program, order, heap, laying):
    """Whether a laying of the order in the heap is right."""
    if not is_order(program, order) or not is_count(heap):
        return False
    if not isinstance(laying, tuple) or len(laying) != len(order):
        return False
    size = sizes(program)
    room = rooms(program)
    parts = part_numbers(program)
    places = {}
    for number, step in zip(order, laying):
        if not is_step(step, number):
            return False
        _, place, room_place, moves = step
        if room[number] == 0 and room_place != 0:
            return False
        if not move_rightly(moves, places, size, heap):
            return False
        places[number] = place
        if not lie_apart(held_stretches(places, size) + room_stretches(room_place, room[number]), heap):
            return False
        for part in parts[number]:
            del places[part]
    return True
