"""Programs: trees of joints, and what is refused in the place of one."""

from hillrooms.errors import BadOp, BadParts, BadProgram, Refused, TooMany
from hillrooms.ops import parts_fit, told_fits

MOST_JOINTS = 40


def check_count(number):
    """Refuse a joint with a number that no program has."""
    if number >= MOST_JOINTS:
        raise TooMany(MOST_JOINTS + 1)


def check_form(op, told, many, place):
    """Refuse an op, what is told to it and how many parts it has; place tells where."""
    if not told_fits(op, told):
        raise BadOp(place)
    if not parts_fit(op, many):
        raise BadParts(place)


def is_triple(thing):
    """Whether a thing is a triple of a text, a tuple and a tuple."""
    if not isinstance(thing, tuple) or len(thing) != 3:
        return False
    op, told, parts = thing
    return isinstance(op, str) and isinstance(told, tuple) and isinstance(parts, tuple)


def check_joint(thing, number):
    """Refuse a thing that is no joint, whatever its parts are."""
    check_count(number)
    if not is_triple(thing):
        raise BadProgram(number)
    op, told, parts = thing
    check_form(op, told, len(parts), number)


def made_program(thing):
    """The thing itself if it is a program; else the first fault of the walk is raised."""
    number = 0
    waiting = [thing]
    while waiting:
        joint = waiting.pop()
        check_joint(joint, number)
        number += 1
        # The last one that waits comes next: the leftmost part has to stand there.
        waiting.extend(joint[2][::-1])
    return thing


def is_program(thing):
    """Whether made_program refuses nothing."""
    try:
        made_program(thing)
    except Refused:
        return False
    return True
