"""The joints of a program by number, and how they hang together."""

from hillrooms.programs import made_program


def joints(program):
    """All joints, each before its parts, the parts from the left."""
    found = []
    waiting = [made_program(program)]
    while waiting:
        joint = waiting.pop()
        found.append(joint)
        # The last one that waits comes next: the leftmost part has to stand there.
        waiting.extend(joint[2][::-1])
    return tuple(found)


def above(program):
    """For each joint the number of the joint of which it is a part, -1 for joint 0."""
    found = []
    waiting = [(made_program(program), -1)]
    while waiting:
        joint, whole = waiting.pop()
        number = len(found)
        found.append(whole)
        waiting.extend([(part, number) for part in joint[2][::-1]])
    return tuple(found)


def names(program):
    """Pairs (name, k) of all inputs, each name once, with the k of its first joint."""
    first = {}
    for op, told, _ in joints(program):
        if op == "in":
            name, k = told
            first.setdefault(name, k)
    return tuple(first.items())


def part_numbers(program):
    """For each joint the tuple of the numbers of its parts, from the left."""
    wholes = above(program)
    found = [[] for _ in wholes]
    for number, whole in enumerate(wholes):
        if whole >= 0:
            found[whole].append(number)
    return tuple([tuple(parts) for parts in found])


def bough_sizes(program):
    """For each joint how many joints its bough has."""
    wholes = above(program)
    found = [1] * len(wholes)
    # Each joint but joint 0 stands above a greater number: its own count is done before.
    for number in reversed(range(1, len(wholes))):
        found[wholes[number]] += found[number]
    return tuple(found)
