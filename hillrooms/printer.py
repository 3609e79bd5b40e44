"""The texts of programs."""

from hillrooms.programs import made_program


def joint_text(joint):
    """The text of a joint with all beneath it."""
    op, told, parts = joint
    words = [str(word) for word in told]
    if op == "row":
        return "[" + " ".join(words) + "]"
    head = " ".join([op] + words)
    if not parts:
        return head
    return head + "(" + ", ".join([joint_text(part) for part in parts]) + ")"


def told_text(program):
    """The text of a program, with single blanks."""
    return joint_text(made_program(program))
