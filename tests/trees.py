"""What the tests share: short ways to write joints, things of any kind, and trees."""

import random
import unittest

MODULUS = 1000003

LEAST_TOLD = {"row": (7,), "in": ("xs", 1), "part": (0, 1), "rep": (1,), "hold": (0,)}

LEAVES = ("row", "in")
ONES = ("rev", "sort", "sum", "top", "part", "rep", "hold")
PAIRS = ("add", "sub", "mul", "dot", "outer", "blend")
OPS = LEAVES + ONES + PAIRS + ("cat",)
NOTHING_TOLD = ("rev", "sort", "sum", "top", "add", "sub", "mul", "dot", "cat", "outer", "blend")


def row(*numbers):
    return ("row", numbers, ())


def given(name, k):
    return ("in", (name, k), ())


def on(op, *parts, told=()):
    return (op, told, parts)


def over(thing, many):
    """A thing beneath so many joints, each of them the only part of the next."""
    for _ in range(many):
        thing = on("rev", thing)
    return thing


def chain(many):
    """A program of so many joints, one beneath the other."""
    return over(row(1, 2), many - 1)


def bush(many):
    """A program of so many joints, as flat as may be: joints "cat" with up to four parts."""
    if many == 1:
        return row(5)
    wanted = min(4, many - 1)
    shares = [(many - 1 + index) // wanted for index in range(wanted)]
    return on("cat", *[bush(share) for share in shares])


def count(thing):
    """How many joints a program has; what is no joint counts as one."""
    if not isinstance(thing, tuple) or len(thing) != 3 or not isinstance(thing[2], tuple):
        return 1
    return 1 + sum(count(part) for part in thing[2])


def deep(many):
    """A tuple in a tuple, so many deep, which is no joint."""
    thing = ()
    for _ in range(many):
        thing = (thing,)
    return thing


# Things of many kinds, none of them a joint in itself.
NO_TRIPLES = (
    None, 0, -1, 41, 10 ** 30, "", "row", "rev", (), (None,), ((), (), ()), ("row",),
    ("row", (1,)), ("row", (1,), (), ()), ("row", (1,), None), ("row", (1,), ""),
    ("row", (1,), 0), ("row", None, ()), ("row", "1", ()), ("row", 1, ()),
    (None, (1,), ()), (0, (1,), ()), (("row",), (1,), ()), ((1,), "row", ()),
    "in xs 4", (row(1),), (row(1), row(2)), ("rev", (), row(1)[0]), deep(90), (0,) * 9000,
)


def parts_wanted(op):
    """How many parts an op may have, the least and the most."""
    if op in LEAVES:
        return (0, 0)
    if op in PAIRS:
        return (2, 2)
    if op == "cat":
        return (1, 4)
    return (1, 1)


def with_parts(op, many, told=None):
    """A joint with so many parts, each of them a row of one number."""
    told = LEAST_TOLD.get(op, ()) if told is None else told
    return (op, told, tuple(row(5) for _ in range(many)))


def whole(op, told=None):
    """A joint with as few parts as its op may have."""
    return with_parts(op, parts_wanted(op)[0], told)


def random_told(dice, op):
    if op == "row":
        return tuple(dice.randrange(MODULUS) for _ in range(dice.randint(1, 6)))
    if op == "in":
        return ("".join(dice.choice("abz") for _ in range(dice.randint(1, 8))), dice.randint(1, 64))
    if op == "part":
        high = dice.randint(1, 64)
        return (dice.randrange(high), high)
    if op == "rep":
        return (dice.randint(1, 16),)
    if op == "hold":
        return (dice.randint(0, 64),)
    return ()


def random_program(dice, many):
    """A program of about so many joints, never more; its sizes may well be refused."""
    op = dice.choice(LEAVES) if many < 2 else dice.choice(ONES + PAIRS + ("cat", "cat"))
    least, most = parts_wanted(op)
    if many < 2 or least > many - 1:
        op = op if most == 0 else "row"
        return (op, random_told(dice, op), ())
    wanted = dice.randint(least, min(most, many - 1))
    shares = [1] * wanted
    for _ in range(many - 1 - wanted):
        shares[dice.randrange(wanted)] += 1
    return (op, random_told(dice, op), tuple(random_program(dice, share) for share in shares))


def random_programs(seed, how_many, most_joints):
    dice = random.Random(seed)
    return [random_program(dice, dice.randint(1, most_joints)) for _ in range(how_many)]


def sized_program(dice, many, size):
    """A program of at most many joints (or a few more) whose value has this size."""
    if many < 2:
        if dice.random() < 0.3:
            return given("abcdefgh"[dice.randint(0, 3)] * 2 + "abcdefghijklmnop"[size % 16]
                         + "abcdefgh"[size // 16], size)
        return row(*[dice.choice((0, 1, 1000002, dice.randrange(MODULUS))) for _ in range(size)])
    half = many // 2
    ways = ["rev", "sort", "hold", "add", "sub", "mul", "part", "blend"]
    if size == 1:
        ways += ["sum", "top", "dot"]
    if size > 1:
        ways += ["cat", "cat", "rep", "outer"]
    op = dice.choice(ways)
    if op in ("rev", "sort"):
        return on(op, sized_program(dice, many - 1, size))
    if op == "hold":
        return on(op, sized_program(dice, many - 1, size), told=(dice.randint(0, 64),))
    if op in ("add", "sub", "mul"):
        return on(op, sized_program(dice, half, size), sized_program(dice, half - 1, size))
    if op == "part":
        more = dice.randint(0, min(5, 64 - size))
        low = dice.randint(0, more)
        return on(op, sized_program(dice, many - 1, size + more), told=(low, low + size))
    if op == "blend":
        first = dice.randint(1, size)
        return on(op, sized_program(dice, half, first), sized_program(dice, half - 1, size + 1 - first))
    if op in ("sum", "top"):
        return on(op, sized_program(dice, many - 1, dice.randint(1, 9)))
    if op == "dot":
        wide = dice.randint(1, 9)
        return on(op, sized_program(dice, half, wide), sized_program(dice, half - 1, wide))
    if op == "cat":
        first = dice.randint(1, size - 1)
        return on(op, sized_program(dice, half, first), sized_program(dice, half - 1, size - first))
    divisors = [n for n in range(1, 17) if size % n == 0]
    times = dice.choice(divisors)
    if op == "rep":
        return on(op, sized_program(dice, many - 1, size // times), told=(times,))
    return on(op, sized_program(dice, half, times), sized_program(dice, half - 1, size // times))


def sized_programs(seed, how_many, most_joints):
    """Programs of at most so many joints whose sizes are not refused."""
    dice = random.Random(seed)
    found = []
    while len(found) < how_many:
        program = sized_program(dice, dice.randint(1, most_joints), dice.choice((1, 2, 4, 6, 12, 64)))
        if count(program) <= most_joints:
            found.append(program)
    return found


def numbered(program):
    """The joints of a program by number."""
    return [program] + [joint for part in program[2] for joint in numbered(part)]


def parts_by_number(program):
    """For each joint the numbers of its parts."""
    found = []

    def walk(joint):
        number = len(found)
        found.append([])
        for part in joint[2]:
            found[number].append(walk(part))
        return number

    walk(program)
    return found


class Case(unittest.TestCase):
    """A test case that knows what a refusal is."""

    def assert_refused(self, error, what, function, *arguments, **named):
        try:
            answer = function(*arguments, **named)
        except ValueError as refusal:
            self.assertIs(error, refusal.__class__, (what, refusal.__class__, arguments))
            self.assertEqual((what.__class__, what), (refusal.what.__class__, refusal.what), arguments)
        else:
            self.fail(f"{arguments} was not refused, but answered {answer!r}")
