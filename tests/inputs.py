"""Inputs for programs, drawn for the tests."""

from tests.trees import MODULUS, numbered


def drawn_inputs(dice, program):
    """Inputs that plain lets, in any order, and perhaps some that the program does not name."""
    wanted = {told[0]: told[1] for op, told, _ in numbered(program) if op == "in"}
    found = [(name, tuple(dice.choice((0, 1, MODULUS - 1, dice.randrange(MODULUS))) for _ in range(k)))
             for name, k in wanted.items()]
    if dice.random() < 0.5 and "other" not in wanted:
        found.append(("other", None))
    dice.shuffle(found)
    return tuple(found)
