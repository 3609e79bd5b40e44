"""The sizes of the values of a program."""

from hillrooms.errors import BadInput, BadPart, Refused, TooGreat, Unequal
from hillrooms.joints import joints, part_numbers
from hillrooms.measures import size_of
from hillrooms.ops import LONGEST_ROW


def checked_size(op, told, part_sizes, number):
    """The size of the value of a joint; what no program may have is refused."""
    if op in ("add", "sub", "mul", "dot") and part_sizes[0] != part_sizes[1]:
        raise Unequal(number)
    if op == "part" and told[1] > part_sizes[0]:
        raise BadPart(number)
    size = size_of(op, told, part_sizes)
    if size > LONGEST_ROW:
        raise TooGreat(number)
    return size


def check_names(rows):
    """Refuse the name of the first input that has had another size before."""
    first = {}
    for op, told, _ in rows:
        if op == "in":
            name, k = told
            if first.setdefault(name, k) != k:
                raise BadInput(name)


def sizes(program):
    """For each joint how many numbers its value has."""
    rows = joints(program)
    parts = part_numbers(program)
    found = [0] * len(rows)
    for number in reversed(range(len(rows))):
        op, told, _ = rows[number]
        part_sizes = [found[part] for part in parts[number]]
        found[number] = checked_size(op, told, part_sizes, number)
    check_names(rows)
    return tuple(found)


def is_sized(thing):
    """Whether a thing is a program of which the sizes are not refused."""
    try:
        sizes(thing)
    except Refused:
        return False
    return True
