"""Rows of code that are of form, and rows that are not, for the tests of the machine and of texts of code."""

from tests.trees import deep

RIGHT_ROWS = (
    ("row", 0, (0,)), ("row", 10000, (1000002,)), ("row", 7, (5,) * 64), ("row", 3, (1, 2)),
    ("in", 0, "a", 1), ("in", 10000, "abcdefgh", 64), ("in", 5, "zz", 9), ("in", 5, "row", 9),
    ("move", 0, 10000, 1), ("move", 10000, 0, 64), ("move", 4, 4, 3),
    ("out", 0, 1), ("out", 10000, 64),
    ("do", "rev", (), ((0, 4),), 5, 0, 0), ("do", "rev", (), ((0, 64),), 10000, 10000, 0),
    ("do", "sort", (), ((3, 2),), 5, 9, 2), ("do", "sort", (), ((10000, 64),), 0, 10000, 64),
    ("do", "sum", (), ((0, 64),), 64, 0, 0), ("do", "top", (), ((0, 1),), 1, 0, 0),
    ("do", "add", (), ((0, 3), (3, 3)), 6, 0, 0), ("do", "sub", (), ((0, 64), (3, 64)), 6, 7, 0),
    ("do", "mul", (), ((0, 1), (0, 1)), 6, 0, 0), ("do", "dot", (), ((0, 3), (3, 3)), 6, 7, 3),
    ("do", "cat", (), ((0, 3),), 6, 0, 0), ("do", "cat", (), ((0, 3), (9, 1), (5, 2), (7, 58)), 70, 0, 0),
    ("do", "outer", (), ((0, 8), (9, 8)), 20, 0, 0), ("do", "outer", (), ((0, 1), (9, 64)), 20, 0, 0),
    ("do", "blend", (), ((0, 3), (9, 5)), 20, 30, 3), ("do", "blend", (), ((0, 1), (9, 64)), 80, 2, 1),
    ("do", "part", (0, 1), ((0, 1),), 20, 0, 0), ("do", "part", (1, 3), ((0, 3),), 3, 0, 0),
    ("do", "part", (63, 64), ((0, 64),), 64, 0, 0),
    ("do", "rep", (1,), ((0, 64),), 64, 0, 0), ("do", "rep", (16,), ((0, 4),), 64, 0, 0),
    ("do", "hold", (0,), ((0, 4),), 64, 10000, 0), ("do", "hold", (64,), ((0, 4),), 64, 100, 64),
)

NO_PLACES = (-1, 10001, 10 ** 30, -(10 ** 30), None, "", "0", (), (0,), deep(90))
NO_LENGTHS = (0, 65, -1, 10 ** 30, None, "", "1", (), (1,), deep(90))
NO_ROWS_OF_NUMBERS = ((), (-1,), (1000003,), (0,) * 65, (0,) * 9000, (None,), ("0",), ((0,),), (1, 2, None), None, "",
                      "1", 1, deep(90))
NO_NAMES = ("", "A", "a1", "abcdefghi", "a b", "ab\n", "\u00e4", None, 0, (), ("a",), deep(90))
NO_PAIRS = (None, "", "0,1", 0, (), (0,), (0, 1, 2), ((0, 1),), deep(90)) + tuple(
    [(place, 1) for place in NO_PLACES] + [(0, k) for k in NO_LENGTHS])
NO_PARTS = (None, "", "xx", 0, 7) + tuple([(pair,) for pair in NO_PAIRS])
NO_ROWS = (
    None, "", "row", "out 0 1", 0, -1, (), ("",), ("row",), ("out",), ("do",), ("in",), ("move",), (None, 0, 1),
    (0, 0, 1), (("out",), 0, 1), ((), 0, 1), (deep(90), 0, 1), ("Out", 0, 1), ("outs", 0, 1), ("out ", 0, 1),
    ("hold", 0, 1), ("", 0, 1), deep(90), (0,) * 9000, ("out",) + (0,) * 9000, (("out", 0, 1),),
)


def do(op, told, parts, room=0):
    return ("do", op, told, parts, 100, 200, room)


ONE = ((0, 4),)
TWO = ((0, 4), (4, 4))
LENGTH_OF_ROOM = {"sort": 4, "dot": 4, "blend": 4, "hold": 5}
TOLD = {"part": (0, 2), "rep": (2,), "hold": (5,)}
TAKES_ONE = ("rev", "sort", "sum", "top", "part", "rep", "hold")
TAKES_TWO = ("add", "sub", "mul", "dot", "outer", "blend")
DOES = TAKES_ONE + TAKES_TWO + ("cat",)


def right_do(op):
    parts = ONE if op in TAKES_ONE else TWO
    return do(op, TOLD.get(op, ()), parts, LENGTH_OF_ROOM.get(op, 0))


def with_thing(row, index, thing):
    return row[:index] + (thing,) + row[index + 1:]


def spoilt(row, index, things):
    return [with_thing(row, index, thing) for thing in things]


def wrong_lengths():
    """Rows with a thing too few or too many."""
    found = []
    for row in RIGHT_ROWS:
        found += [row[:-1], row + (0,), row + (1,), row + ((),), row + (None,), row + row]
    return [row for row in found if row not in RIGHT_ROWS]


def wrong_dos():
    """Dos with an op, told things, parts or sizes that programs do not have, or with another room."""
    found = []
    for op in ("row", "in", "", "do", "out", "Rev", "rev ", "xyz", None, 0, (), ("rev",), deep(90)):
        found += [do(op, (), ONE), do(op, (1,), ()), do(op, ("a", 1), ()), do(op, (), ())]
    for op in DOES:
        right = right_do(op)
        found += spoilt(right, 3, NO_PARTS + ((),))
        found += spoilt(right, 6, NO_PLACES + tuple(n for n in (0, 1, 3, 4, 5, 6, 10) if n != right[6]))
        found += spoilt(right, 2, (None, "", 0, "2", (None,), ("2",), ((2,),), (-1,), (1, 2, 3), (0,) * 9000, deep(90)))
        found += spoilt(right, 2, ((0,),) if op != "hold" else ())
        wrong = 2 if op in TAKES_ONE else 1
        found += [with_thing(right, 3, ((0, 4), (4, 4), (8, 4))[:wrong])] if op != "cat" else []
        found += [with_thing(right, 3, tuple((4 * n, 4) for n in range(5))), with_thing(right, 3, ONE * 3000)]
        found += [with_thing(right, 3, right[3][:-1] + (pair,)) for pair in NO_PAIRS]
    found += spoilt(right_do("part"), 2, ((0,), (2, 2), (3, 2), (0, 0), (-1, 2), (0, 5), (3, 65), (0, 65), (0, None)))
    found += spoilt(right_do("rep"), 2, ((0,), (17,), (-1,), (1, 2), ()))
    found += spoilt(right_do("hold"), 2, ((-1,), (65,), (4,), (6,), (5, 5), ()))
    # Sizes of values and parts that sizes refuses.
    for op in ("add", "sub", "mul", "dot"):
        found += spoilt(right_do(op), 3, (((0, 4), (4, 3)), ((0, 4), (4, 5)), ((0, 1), (4, 4))))
    found += [do("cat", (), ((0, 60), (60, 5))), do("cat", (), ((0, 20),) * 4), do("rep", (2,), ((0, 33),)),
              do("rep", (16,), ((0, 5),)), do("outer", (), ((0, 9), (9, 8))), do("blend", (), ((0, 33), (33, 33)), 33),
              do("part", (0, 5), ((0, 4),)), do("part", (4, 5), ((0, 4),))]
    # Rooms that other ops would have.
    found += [do("sum", (), ONE, 4), do("sort", (), ONE, 0), do("blend", (), ((0, 3), (3, 5)), 5),
              do("blend", (), ((0, 3), (3, 5)), 7), do("hold", (5,), ONE, 4), do("outer", (), TWO, 4)]
    return found


def wrong_rows():
    """Rows that are not of form, of all kinds."""
    found = list(NO_ROWS) + wrong_lengths() + wrong_dos()
    found += spoilt(("row", 0, (1, 2)), 1, NO_PLACES) + spoilt(("row", 0, (1, 2)), 2, NO_ROWS_OF_NUMBERS)
    found += spoilt(("in", 0, "xs", 3), 1, NO_PLACES) + spoilt(("in", 0, "xs", 3), 2, NO_NAMES)
    found += spoilt(("in", 0, "xs", 3), 3, NO_LENGTHS)
    found += spoilt(("move", 0, 9, 3), 1, NO_PLACES) + spoilt(("move", 0, 9, 3), 2, NO_PLACES)
    found += spoilt(("move", 0, 9, 3), 3, NO_LENGTHS)
    found += spoilt(("out", 0, 3), 1, NO_PLACES) + spoilt(("out", 0, 3), 2, NO_LENGTHS)
    found += spoilt(do("sort", (), ONE, 4), 4, NO_PLACES) + spoilt(do("sort", (), ONE, 4), 5, NO_PLACES)
    found += spoilt(do("rev", (), ONE), 5, NO_PLACES)
    return found
