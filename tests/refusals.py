"""Programs, sizes and orders that are refused, for the tests of all that take programs."""

from hillrooms.errors import (
    BadInput, BadOp, BadOrder, BadPart, BadParts, BadProgram, TooGreat, TooMany, Unequal,
)
from hillrooms.reader import read
from tests.samples import TREE
from tests.trees import Case, chain, on, row

NO_PROGRAMS = (
    (BadProgram, 0, None),
    (BadProgram, 2, on("add", row(1), "in xs 1")),
    (BadOp, 1, on("rev", ("row", (), ()))),
    (BadParts, 0, on("add", row(1))),
    (TooMany, 41, chain(41)),
)

NO_SIZES = (
    (Unequal, 0, read("add([1], [1 2])")),
    (TooGreat, 0, read("rep 2(in a 40)")),
    (BadPart, 0, read("part 0 2(in a 1)")),
    (BadInput, "a", read("cat(in a 1, in a 2)")),
    (Unequal, 1, read("rev(dot([1], [1 2]))")),
)

# Tuples of numbers that are no orders of TREE, each with the index that is refused.
NO_ORDERS = (
    # A number that is no joint.
    ((7, 2, 3, 1, 6, 5, 4, 0), 0), ((2, 3, -1, 6, 5, 4, 0), 2), ((2, 3, 1, 6, 5, 4, 7), 6),
    ((2, 3, 1, 6, 5, 4, 0, 7), 7), ((2, -7, 1, 6, 5, 4, 0), 1), ((10 ** 30,), 0), ((2, 3, 1, -(10 ** 30)), 3),
    # A joint that stands twice.
    ((2, 2, 3, 1, 6, 5, 4, 0), 1), ((2, 3, 1, 2, 6, 5, 4, 0), 3), ((2, 3, 1, 6, 5, 4, 4), 6),
    ((2, 3, 1, 6, 5, 4, 0, 0), 7), ((2, 3, 1, 6, 5, 4, 0, 2), 7),
    # A joint ahead of a part.
    ((0, 1, 2, 3, 4, 5, 6), 0), ((2, 1, 3, 6, 5, 4, 0), 1), ((2, 3, 1, 6, 4, 5, 0), 4), ((6, 5, 4, 0, 2, 3, 1), 3),
    # Too short.
    ((), 0), ((2,), 1), ((2, 3, 1, 6, 5, 4), 6), ((6, 5), 2),
    # The first fault of several.
    ((2, 7, 2, 0), 1), ((2, 2, 9, -1), 1), ((2, 3, 0, 0, 9), 2), ((2, 6, 1), 2),
)


class SizedCase(Case):
    """A test case for functions that refuse programs, then sizes, then what else they are handed."""

    def assert_programs_refused(self, function, *others):
        for error, what, thing in NO_PROGRAMS + NO_SIZES:
            self.assert_refused(error, what, function, thing, *others)

    def assert_orders_refused(self, function, *others):
        for order, index in NO_ORDERS:
            self.assert_refused(BadOrder, index, function, TREE, order, *others)
        self.assert_refused(BadOrder, 0, function, row(1), (), *others)
        self.assert_refused(BadOrder, 39, function, chain(40), tuple(range(1, 40))[::-1], *others)
        for order in ((), (0,), (5, 5), (-1, 10 ** 20)):
            self.assert_programs_refused(function, order, *others)
