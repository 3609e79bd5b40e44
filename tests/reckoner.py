"""What [1] says of sizes, rooms and values, told a second time for the tests."""

MODULUS = 1000003


def worked_out(program, inputs=None):
    """For each joint by number a triple (size, room, value); the program has right sizes.

    Without inputs, a row of zeros is taken for each of them.
    """
    inputs = {} if inputs is None else inputs
    found = []

    def walk(joint):
        op, told, parts = joint
        number = len(found)
        found.append(None)
        rows = [walk(part) for part in parts]
        value = tuple(n % MODULUS for n in made(op, told, rows, inputs))
        found[number] = (len(value), wanted(op, told, rows), value)
        return value

    walk(program)
    return found


def wanted(op, told, rows):
    if op == "hold":
        return told[0]
    return len(rows[0]) if op in ("sort", "dot", "blend") else 0


def made(op, told, rows, inputs):
    if op == "row":
        return told
    if op == "in":
        return inputs.get(told[0], (0,) * told[1])
    if op == "rep":
        return [n for _ in range(told[0]) for n in rows[0]]
    if op == "part":
        return [rows[0][index] for index in range(told[0], told[1])]
    if op == "blend":
        return blended(rows[0], rows[1])
    return PLAIN[op](*rows)


def blended(a, b):
    return [sum(a[i] * b[n - i] for i in range(len(a)) if 0 <= n - i < len(b)) for n in range(len(a) + len(b) - 1)]


PLAIN = {
    "rev": lambda a: list(reversed(a)),
    "sort": sorted,
    "sum": lambda a: [sum(a)],
    "top": lambda a: [max(a)],
    "hold": lambda a: a,
    "add": lambda a, b: [a[n] + b[n] for n in range(len(a))],
    "sub": lambda a, b: [a[n] - b[n] for n in range(len(a))],
    "mul": lambda a, b: [a[n] * b[n] for n in range(len(a))],
    "dot": lambda a, b: [sum(a[n] * b[n] for n in range(len(a)))],
    "outer": lambda a, b: [x * y for x in a for y in b],
    "cat": lambda *rows: sum((tuple(row) for row in rows), ()),
}
