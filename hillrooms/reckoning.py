"""The value of a joint, by the values of its parts; all reckoning is modulo MODULUS."""

from hillrooms.ops import MODULUS


def turned(told, rows):
    return rows[0][::-1]


def ascending(told, rows):
    return tuple(sorted(rows[0]))


def total(told, rows):
    return (sum(rows[0]) % MODULUS,)


def greatest(told, rows):
    return (max(rows[0]),)


def added(told, rows):
    return tuple([(a + b) % MODULUS for a, b in zip(rows[0], rows[1])])


def subtracted(told, rows):
    return tuple([(a - b) % MODULUS for a, b in zip(rows[0], rows[1])])


def multiplied(told, rows):
    return tuple([(a * b) % MODULUS for a, b in zip(rows[0], rows[1])])


def dotted(told, rows):
    return (sum([a * b for a, b in zip(rows[0], rows[1])]) % MODULUS,)


def joined(told, rows):
    return tuple([n for row in rows for n in row])


def crossed(told, rows):
    return tuple([(a * b) % MODULUS for a in rows[0] for b in rows[1]])


def blended(told, rows):
    one, two = rows
    found = [0] * (len(one) + len(two) - 1)
    for i, a in enumerate(one):
        for j, b in enumerate(two):
            found[i + j] = (found[i + j] + a * b) % MODULUS
    return tuple(found)


def cut(told, rows):
    return rows[0][told[0]:told[1]]


def repeated(told, rows):
    return rows[0] * told[0]


def unchanged(told, rows):
    return rows[0]


# Each takes what is told and a list of the values of the parts.
ACTIONS = {
    "rev": turned,
    "sort": ascending,
    "sum": total,
    "top": greatest,
    "add": added,
    "sub": subtracted,
    "mul": multiplied,
    "dot": dotted,
    "cat": joined,
    "outer": crossed,
    "blend": blended,
    "part": cut,
    "rep": repeated,
    "hold": unchanged,
}


def reckoned(op, told, rows):
    """The value of a joint with parts, out of a list of their values."""
    action = ACTIONS[op]
    return action(told, rows)
