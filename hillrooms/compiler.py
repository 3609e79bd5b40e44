"""Programs compiled to code."""

from hillrooms.errors import BadWay
from hillrooms.heights import peak
from hillrooms.joints import joints, part_numbers
from hillrooms.pools import pool_heap, pools
from hillrooms.rooms import rooms
from hillrooms.sizes import sizes
from hillrooms.slides import slid
from hillrooms.stacks import stacked

WAYS = ("slid", "stacked", "pools")


def laid(program, order, way):
    """The laying of an order in one of the ways."""
    if way == "slid":
        return slid(program, order)
    if way == "stacked":
        return stacked(program, order)
    return pools(program, order)


def joint_row(joint, parts, place, room_place, room):
    """The row of code that makes the value of a joint."""
    op, told, _ = joint
    if op == "row":
        return ("row", place, told)
    if op == "in":
        name, k = told
        return ("in", place, name, k)
    return ("do", op, told, parts, place, room_place, room)


def move_rows(moves, places, size):
    """The rows of code of some moves; places is changed as they tell."""
    found = []
    for joint, goal in moves:
        found.append(("move", places[joint], goal, size[joint]))
        places[joint] = goal
    return found


def laying_code(program, laying):
    """The code of a laying of an order of the program."""
    size = sizes(program)
    room = rooms(program)
    parts = part_numbers(program)
    all_joints = joints(program)
    places = {}
    found = []
    for number, place, room_place, moves in laying:
        found.extend(move_rows(moves, places, size))
        part_places = tuple([(places[part], size[part]) for part in parts[number]])
        found.append(joint_row(all_joints[number], part_places, place, room_place, room[number]))
        places[number] = place
    found.append(("out", places[0], size[0]))
    return tuple(found)


def compiled(program, order, way):
    """The heap and the code of a program, made in an order and laid in one of the ways."""
    # Refused sizes and orders come ahead of a refused way.
    heap = peak(program, order)
    if way not in WAYS:
        raise BadWay(way)
    if way == "pools":
        heap = pool_heap(program, order)
    return heap, laying_code(program, laid(program, order, way))
