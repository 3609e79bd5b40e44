"""The size of the value of a joint, and the room beside it, by the sizes of its parts."""


def size_of(op, told, part_sizes):
    """How many numbers the value of a joint has, were there no limit."""
    if op == "row":
        return len(told)
    if op == "in":
        return told[1]
    if op in ("sum", "top", "dot"):
        return 1
    if op == "cat":
        return sum(part_sizes)
    if op == "outer":
        return part_sizes[0] * part_sizes[1]
    if op == "blend":
        return part_sizes[0] + part_sizes[1] - 1
    if op == "part":
        return told[1] - told[0]
    if op == "rep":
        return told[0] * part_sizes[0]
    return part_sizes[0]


def room_of(op, told, part_sizes):
    """How many cells a joint wants while it is made, beside its value and its parts."""
    if op in ("sort", "dot", "blend"):
        return part_sizes[0]
    if op == "hold":
        return told[0]
    return 0
