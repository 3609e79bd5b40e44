"""The values of programs, worked out straight."""

from hillrooms.errors import BadInput
from hillrooms.joints import joints, names, part_numbers
from hillrooms.ops import are_row_numbers
from hillrooms.reckoning import reckoned
from hillrooms.sizes import sizes


def is_row_of(thing, k):
    """Whether a thing is a tuple of k numbers of a row."""
    return isinstance(thing, tuple) and len(thing) == k and are_row_numbers(thing)


def check_inputs(program, given):
    """Refuse the first name of the program that has no fitting row in the dict given."""
    for name, k in names(program):
        if name not in given or not is_row_of(given[name], k):
            raise BadInput(name)


def value_of(joint, rows, given):
    """The value of a joint, by the values of its parts and the dict of the inputs."""
    op, told, _ = joint
    if op == "row":
        return told
    if op == "in":
        return given[told[0]]
    return reckoned(op, told, rows)


def plain(program, inputs):
    """The value of joint 0."""
    # Refused sizes come ahead of refused inputs.
    sizes(program)
    given = dict(inputs)
    check_inputs(program, given)
    all_joints = joints(program)
    parts = part_numbers(program)
    found = [()] * len(all_joints)
    for number in reversed(range(len(all_joints))):
        rows = [found[part] for part in parts[number]]
        found[number] = value_of(all_joints[number], rows, given)
    return found[0]
