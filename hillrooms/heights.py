"""How many cells the steps of an order need, and how many are held behind them."""

from hillrooms.joints import part_numbers
from hillrooms.orders import check_order
from hillrooms.rooms import rooms
from hillrooms.sizes import sizes


def heights(program, order):
    """For each step of an order a pair (needed, held)."""
    # Refused sizes come ahead of a refused order.
    size = sizes(program)
    check_order(program, order)
    room = rooms(program)
    parts = part_numbers(program)
    held = 0
    found = []
    for number in order:
        needed = held + room[number] + size[number]
        held += size[number] - sum([size[part] for part in parts[number]])
        found.append((needed, held))
    return tuple(found)


def greatest_needed(steps):
    """The greatest needed of the pairs of some steps."""
    return max([needed for needed, _ in steps])


def peak(program, order):
    """How many cells an order needs at most."""
    return greatest_needed(heights(program, order))
