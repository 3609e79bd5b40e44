"""The best orders that finish one branch before the next."""

from hillrooms.joints import part_numbers
from hillrooms.needs import own_needs
from hillrooms.sizes import sizes


def turns(parts, peaks, size):
    """Parts in the order in which they are best made, by their own peaks and sizes."""
    # Sorting keeps equal ones as they stand, from the left.
    return sorted(parts, key=lambda part: size[part] - peaks[part])


def peak_with_parts(need, parts, peaks, size):
    """The peak of a bough of which the parts are made in this order, and whose joint needs so much."""
    greatest = need
    held = 0
    for part in parts:
        greatest = max(greatest, held + peaks[part])
        held += size[part]
    return greatest


def best_branches(program):
    """The best branch peak of the whole program, and the order with it."""
    size = sizes(program)
    needs = own_needs(program)
    parts = part_numbers(program)
    peaks = [0] * len(parts)
    orders = [()] * len(parts)
    for number in reversed(range(len(parts))):
        beneath = turns(parts[number], peaks, size)
        peaks[number] = peak_with_parts(needs[number], beneath, peaks, size)
        steps = [step for part in beneath for step in orders[part]]
        orders[number] = tuple(steps + [number])
    return peaks[0], orders[0]


def best_branch_peak(program):
    """The least peak of all branchwise orders."""
    best, _ = best_branches(program)
    return best


def best_branch_order(program):
    """A branchwise order with the best branch peak."""
    _, order = best_branches(program)
    return order
