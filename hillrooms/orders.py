"""Orders in which the joints of a program are made."""

from hillrooms.errors import BadOrder
from hillrooms.joints import bough_sizes, part_numbers
from hillrooms.ops import is_number
from hillrooms.sizes import is_sized


def may_come(thing, parts, made):
    """Whether a thing may be the next one of an order, where made tells of each joint."""
    if not is_number(thing) or not 0 <= thing < len(parts) or made[thing]:
        return False
    return all([made[part] for part in parts[thing]])


def order_fault(program, order):
    """The index of the first fault of a tuple that should be an order; -1 if there is none."""
    parts = part_numbers(program)
    made = [False] * len(parts)
    for index, thing in enumerate(order):
        if not may_come(thing, parts, made):
            return index
        made[thing] = True
    return -1 if all(made) else len(order)


def check_order(program, order):
    """Refuse a tuple of numbers that is no order."""
    fault = order_fault(program, order)
    if fault >= 0:
        raise BadOrder(fault)


def is_order(program, order):
    """Whether order is an order of a program of which the sizes are not refused."""
    if not is_sized(program) or not isinstance(order, tuple):
        return False
    return order_fault(program, order) == -1


def first_order(program):
    """The parts from the left, each with all beneath it, then the joint."""
    parts = part_numbers(program)
    found = []
    waiting = [0]
    # Read backwards, the order has each joint ahead of its parts, these from the right.
    while waiting:
        number = waiting.pop()
        found.append(number)
        waiting.extend(parts[number])
    return tuple(found[::-1])


def branchwise(program, order):
    """Whether the joints of each bough stand side by side in an order."""
    check_order(program, order)
    places = {number: place for place, number in enumerate(order)}
    for number, many in enumerate(bough_sizes(program)):
        # The joint is the last one of its bough, so only the first one can stray.
        first = min([places[joint] for joint in range(number, number + many)])
        if places[number] - first != many - 1:
            return False
    return True
