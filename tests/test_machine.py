"""[21] and [24]: the machine, with every cell watched."""

import random
import unittest

from hillrooms.errors import BadCell, BadCode, BadInput
from hillrooms.machine import run
from tests.machines import INPUTS, outcome, random_codes, run_by_word, running_codes, spoilt_code
from tests.trees import Case

EXAMPLE = (
    ("row", 0, (1,)), ("do", "rep", (2,), ((0, 1),), 1, 0, 0), ("move", 1, 0, 2),
    ("do", "rep", (2,), ((0, 2),), 2, 0, 0), ("out", 2, 4),
)
M = 1000003


def done(op, parts, at, told=(), room_at=0, room=0):
    return ("do", op, told, tuple(parts), at, room_at, room)


class RunTest(Case):

    def check(self, expected, heap, code, inputs=()):
        self.assertEqual(expected, run(heap, code, inputs))

    def check_cell(self, index, cell, heap, code, inputs=()):
        self.assert_refused(BadCell, (index, cell), run, heap, code, inputs)

    def test_the_example(self):
        self.check(((1, 1, 1, 1), (1, 3, 2, 6, 4), 6, 2), 6, EXAMPLE)

    def test_the_other_example(self):
        code = (("row", 0, (7,)), ("do", "top", (), ((1, 1),), 0, 0, 0), ("out", 0, 1))
        self.check_cell(1, 0, 6, code)

    def test_names_and_kinds_of_arguments(self):
        found = run(heap=9, code=EXAMPLE, inputs=())
        self.assertEqual(((1, 1, 1, 1), (1, 3, 2, 6, 4), 6, 2), found)
        self.assertEqual([tuple, tuple, tuple, int, int], [thing.__class__ for thing in (found,) + found])

    def test_a_row_and_an_out(self):
        self.check(((7,), (1, 1), 1, 0), 1, (("row", 0, (7,)), ("out", 0, 1)))
        self.check(((7, 0, 1000002), (3, 3), 12, 0), 20, (("row", 9, (7, 0, 1000002)), ("out", 9, 3)))
        row = tuple(range(64))
        self.check((row, (64, 64), 10000, 0), 10000, (("row", 9936, row), ("out", 9936, 64)))

    def test_an_input(self):
        code = (("in", 2, "xs", 3), ("out", 2, 3))
        self.check(((4, 5, 6), (3, 3), 5, 0), 5, code, (("xs", (4, 5, 6)),))
        self.check(((4, 5, 6), (3, 3), 5, 0), 5, code, (("ys", None), ("xs", (4, 5, 6)), ("zs", (1,))))
        # One input may be written twice.
        code = (("in", 2, "xs", 1), ("in", 0, "xs", 1), done("cat", [(0, 1), (2, 1)], 4), ("out", 4, 2))
        self.check(((8, 8), (1, 2, 4, 2), 6, 0), 6, code, (("xs", (8,)),))

    def test_every_op(self):
        one = (("row", 1, (5, 1000002, 3)),)
        for op, told, room, value in (("rev", (), 0, (3, 1000002, 5)), ("sort", (), 3, (3, 5, 1000002)),
                                      ("sum", (), 0, (7,)), ("top", (), 0, (1000002,)), ("cat", (), 0, (5, 1000002, 3)),
                                      ("part", (1, 3), 0, (1000002, 3)), ("part", (0, 1), 0, (5,)),
                                      ("rep", (2,), 0, (5, 1000002, 3, 5, 1000002, 3)),
                                      ("hold", (0,), 0, (5, 1000002, 3)), ("hold", (4,), 4, (5, 1000002, 3))):
            code = one + (done(op, [(1, 3)], 10, told, 20, room), ("out", 10, len(value)))
            highest = 20 + room if room else 10 + len(value)
            self.check((value, (3, 3 + len(value) + room, len(value)), highest, 0), 30, code)
        two = (("row", 1, (5, 1000002, 3)), ("row", 7, (2, 2, 4)))
        for op, room, value in (("add", 0, (7, 1, 7)), ("sub", 0, (3, 1000000, M - 1)), ("mul", 0, (10, 1000001, 12)),
                                ("dot", 3, (20,)), ("cat", 0, (5, 1000002, 3, 2, 2, 4)),
                                ("outer", 0, (10, 10, 20, 1000001, 1000001, 999999, 6, 6, 12)),
                                ("blend", 3, (10, 8, 24, 2, 12))):
            code = two + (done(op, [(1, 3), (7, 3)], 10, (), 20, room), ("out", 10, len(value)))
            highest = 20 + room if room else 10 + len(value)
            self.check((value, (3, 6, 6 + len(value) + room, len(value)), highest, 0), 30, code)

    def test_parts_at_any_places_from_the_left(self):
        rows = (("row", 8, (1,)), ("row", 0, (2, 3)), ("row", 5, (4,)), ("row", 3, (9,)))
        code = rows + (done("cat", [(5, 1), (0, 2), (8, 1), (3, 1)], 9), ("out", 9, 5))
        self.check(((4, 2, 3, 1, 9), (1, 3, 4, 5, 10, 5), 14, 0), 14, code)
        code = rows[:3] + (done("sub", [(8, 1), (5, 1)], 10), done("cat", [(0, 2), (10, 1)], 4), ("out", 4, 3))
        self.check(((2, 3, 1000000), (1, 3, 4, 5, 6, 3), 11, 0), 11, code)

    def test_the_value_may_lie_below_its_parts_and_its_room(self):
        code = (("row", 6, (3, 1)), done("sort", [(6, 2)], 2, (), 4, 2), ("out", 2, 2))
        self.check(((1, 3), (2, 6, 2), 8, 0), 8, code)
        code = (("row", 2, (3, 1)), done("sort", [(2, 2)], 4, (), 0, 2), ("out", 4, 2))
        self.check(((1, 3), (2, 6, 2), 6, 0), 6, code)

    def test_the_room_and_the_parts_are_free_behind_a_do(self):
        code = (("row", 0, (3, 1)), done("sort", [(0, 2)], 2, (), 4, 2), ("row", 4, (8, 9)), ("row", 0, (5,)),
                done("cat", [(0, 1), (2, 2), (4, 2)], 6), ("out", 6, 5))
        self.check(((5, 1, 3, 8, 9), (2, 6, 4, 5, 10, 5), 11, 0), 11, code)
        # Nothing of them can be read any more.
        for cell in (0, 1, 4, 5):
            code = (("row", 0, (3, 1)), done("sort", [(0, 2)], 2, (), 4, 2), ("out", cell, 1))
            self.check_cell(2, cell, 11, code)

    def test_moves_over_own_cells(self):
        for here in range(6):
            for there in range(6):
                code = (("row", here, (1, 2, 3)), ("move", here, there, 3), ("out", there, 3))
                self.check(((1, 2, 3), (3, 3, 3), max(here, there) + 3, 3), 8, code)

    def test_a_move_frees_what_it_does_not_write(self):
        for there in range(9):
            code = (("row", 3, (1, 2, 3)), ("move", 3, there, 3), ("row", 3, (7,)), ("out", 0, 1))
            if there in (1, 2, 3):
                self.check_cell(2, 3, 12, code)
            else:
                # Cell 3 is free again: the out is what fails.
                self.assertIn(outcome(12, code, ()), ((BadCell, (3, 0)), (BadCode, 4)))
        # All of the goal is held behind it, and nothing else.
        code = (("row", 3, (1, 2, 3)), ("move", 3, 2, 3), ("row", 5, (7,)), ("move", 2, 1, 3), ("row", 4, (8,)),
                done("cat", [(5, 1), (1, 3), (4, 1)], 6), ("out", 6, 5))
        self.check(((7, 1, 2, 3, 8), (3, 3, 4, 4, 5, 10, 5), 11, 6), 11, code)

    def test_a_part_of_a_value_may_be_moved(self):
        code = (("row", 0, (1, 2, 3, 4)), ("move", 1, 5, 2), ("out", 5, 2))
        self.assert_refused(BadCode, 3, run, 9, code, ())
        code = (("row", 0, (1, 2, 3, 4)), ("move", 2, 5, 2), ("move", 0, 7, 2), ("out", 5, 4))
        self.check(((3, 4, 1, 2), (4, 4, 4, 4), 9, 4), 9, code)

    def test_moved_counts_each_move(self):
        code = (("row", 0, (1, 2)),) + (("move", 0, 0, 2), ("move", 0, 1, 2), ("move", 1, 0, 2)) * 5 + (("out", 0, 2),)
        self.check(((1, 2), (2,) * 17, 3, 30), 3, code)

    def test_highest(self):
        # By a value, a room, a goal of a move, and a row that is gone by the end.
        last = (("row", 0, (1,)), ("out", 0, 1))
        self.check(((1,), (1, 1), 1, 0), 50, last)
        code = (("row", 40, (4,)), done("sum", [(40, 1)], 0), ("out", 0, 1))
        self.check(((4,), (1, 2, 1), 41, 0), 50, code)
        code = (("row", 1, (4,)), done("hold", [(1, 1)], 0, (3,), 30, 3), ("out", 0, 1))
        self.check(((4,), (1, 5, 1), 33, 0), 50, code)
        code = (("row", 1, (4, 5)), ("move", 1, 20, 2), ("move", 20, 0, 2), ("out", 0, 2))
        self.check(((4, 5), (2, 2, 2, 2), 22, 4), 50, code)
        code = (("row", 1, (4, 5)), done("rep", [(1, 2)], 10, (2,)), done("sum", [(10, 4)], 0), ("out", 0, 1))
        self.check(((18,), (2, 6, 5, 1), 14, 0), 50, code)

    def test_a_room_of_0_names_no_cell(self):
        for room_at in (0, 1, 2, 5, 9, 10, 10000):
            code = (("row", 0, (1, 2)), ("row", 9, (7,)), done("rev", [(0, 2)], 2, (), room_at, 0),
                    done("cat", [(9, 1), (2, 2)], 4, (), room_at, 0), ("out", 4, 3))
            self.check(((7, 2, 1), (2, 3, 5, 6, 3), 10, 0), 10, code)

    def test_cells_outside_the_heap(self):
        self.check_cell(0, 5, 5, (("row", 3, (1, 2, 3, 4)), ("out", 3, 4)))
        self.check_cell(0, 9, 5, (("row", 9, (1, 2, 3, 4)), ("out", 9, 4)))
        self.check_cell(0, 0, 0, (("row", 0, (1,)), ("out", 0, 1)))
        self.check_cell(0, 10000, 10000, (("row", 10000, (1,)), ("out", 10000, 1)))
        self.check_cell(0, 5, 5, (("in", 4, "xs", 3), ("out", 4, 3)), (("xs", (1, 2, 3)),))
        ahead = (("row", 3, (1, 2)),)
        out = (("out", 0, 1),)
        # A value, a room, both, a part, a goal, a source, an out.
        self.check_cell(1, 6, 5, ahead + (done("rev", [(3, 2)], 6),) + out)
        self.check_cell(1, 5, 5, ahead + (done("hold", [(3, 2)], 0, (2,), 5, 2),) + out)
        self.check_cell(1, 7, 5, ahead + (done("hold", [(3, 2)], 9, (2,), 7, 2),) + out)
        self.check_cell(1, 7, 5, ahead + (done("hold", [(3, 2)], 7, (2,), 9, 2),) + out)
        self.check_cell(1, 5, 5, ahead + (done("rev", [(3, 3)], 0),) + out)
        self.check_cell(1, 8, 5, ahead + (done("cat", [(3, 2), (8, 1)], 0),) + out)
        self.check_cell(1, 5, 5, ahead + (("move", 3, 4, 2),) + out)
        self.check_cell(1, 10000, 5, ahead + (("move", 3, 10000, 2),) + out)
        self.check_cell(1, 5, 5, ahead + (("move", 4, 0, 3),) + out)
        self.check_cell(1, 5, 5, ahead + (("out", 3, 3),))
        self.check_cell(1, 9936, 5, ahead + (("out", 9936, 64),))

    def test_cells_that_are_read_and_not_held(self):
        ahead = (("row", 3, (1, 2)),)
        out = (("out", 0, 1),)
        self.check_cell(1, 2, 20, ahead + (done("rev", [(2, 3)], 8),) + out)
        self.check_cell(1, 5, 20, ahead + (done("rev", [(3, 4)], 8),) + out)
        self.check_cell(1, 9, 20, ahead + (done("cat", [(3, 2), (9, 2)], 15),) + out)
        self.check_cell(1, 2, 20, ahead + (("move", 2, 8, 2),) + out)
        self.check_cell(1, 5, 20, ahead + (("move", 4, 8, 2),) + out)
        # Cells that a move reads and writes are to be held, too.
        self.check_cell(1, 10, 20, ahead + (("move", 10, 10, 2),) + out)
        self.check_cell(1, 5, 20, ahead + (("move", 4, 5, 2),) + out)
        self.check_cell(1, 5, 20, (("row", 4, (2,)), ("move", 4, 3, 2)) + out)
        self.check_cell(1, 5, 20, ahead + (("out", 3, 3),))
        self.check_cell(1, 2, 20, ahead + (("out", 2, 3),))
        self.check_cell(0, 0, 20, (("out", 0, 1),))

    def test_cells_that_are_written_and_held(self):
        ahead = (("row", 3, (1, 2)), ("row", 8, (3,)))
        out = (("out", 0, 1),)
        inputs = (("xs", (1, 2, 3)),)
        self.check_cell(2, 3, 20, ahead + (("row", 2, (1, 2)),) + out)
        self.check_cell(2, 4, 20, ahead + (("row", 4, (1, 2)),) + out)
        self.check_cell(2, 8, 20, ahead + (("in", 6, "xs", 3),) + out, inputs)
        self.check_cell(2, 3, 20, ahead + (("in", 3, "xs", 3),) + out, inputs)
        self.check_cell(2, 3, 20, ahead + (done("rev", [(8, 1)], 3),) + out)
        self.check_cell(2, 4, 20, ahead + (done("hold", [(8, 1)], 0, (3,), 4, 3),) + out)
        self.check_cell(2, 8, 20, ahead + (("move", 3, 7, 2),) + out)
        self.check_cell(2, 4, 20, ahead + (("move", 8, 4, 1),) + out)
        # The first of two stretches leaves cells that the second one may write.
        self.check(((1, 2, 3), (2, 3, 3, 6, 3), 12, 2), 20,
                   ahead + (("move", 3, 2, 2), done("cat", [(2, 2), (8, 1)], 9), ("out", 9, 3)))

    def test_cells_that_are_named_twice_in_one_do(self):
        ahead = (("row", 3, (1, 2)), ("row", 8, (3,)))
        out = (("out", 0, 1),)
        # By two parts, by a part and the value, by a part and the room, by the value and the room.
        self.check_cell(2, 3, 20, ahead + (done("add", [(3, 2), (3, 2)], 10),) + out)
        self.check_cell(2, 4, 20, ahead + (done("cat", [(3, 2), (4, 1)], 10),) + out)
        self.check_cell(2, 4, 20, ahead + (done("cat", [(4, 1), (8, 1), (3, 2)], 10),) + out)
        self.check_cell(2, 4, 20, ahead + (done("rev", [(3, 2)], 4),) + out)
        self.check_cell(2, 3, 20, ahead + (done("rev", [(3, 2)], 3),) + out)
        self.check_cell(2, 3, 20, ahead + (done("hold", [(3, 2)], 10, (2,), 2, 2),) + out)
        self.check_cell(2, 13, 20, ahead + (done("hold", [(3, 2)], 12, (2,), 13, 2),) + out)
        self.check_cell(2, 12, 20, ahead + (done("hold", [(3, 2)], 12, (2,), 11, 2),) + out)
        self.check_cell(2, 12, 20, ahead + (done("sort", [(3, 2)], 12, (), 12, 2),) + out)

    def test_the_least_cell_of_several_faults(self):
        ahead = (("row", 3, (1, 2)), ("row", 8, (3,)))
        out = (("out", 0, 1),)
        # Read and not held (9), written and held (8), outside (20), named twice (3, 4).
        self.check_cell(2, 8, 20, ahead + (done("cat", [(9, 1), (3, 2)], 8),) + out)
        self.check_cell(2, 5, 20, ahead + (done("cat", [(5, 1), (3, 2)], 8),) + out)
        self.check_cell(2, 9, 20, ahead + (done("rep", [(9, 1)], 18, (3,)),) + out)
        self.check_cell(2, 8, 20, ahead + (done("hold", [(3, 2)], 19, (2,), 7, 2),) + out)
        self.check_cell(2, 4, 20, ahead + (done("hold", [(9, 2)], 19, (2,), 4, 2),) + out)
        self.check_cell(2, 3, 20, ahead + (done("hold", [(9, 2)], 19, (2,), 3, 2),) + out)
        self.check_cell(2, 12, 20, ahead + (done("hold", [(3, 2)], 12, (2,), 12, 2),) + out)
        self.check_cell(2, 2, 20, ahead + (done("hold", [(2, 2)], 12, (2,), 12, 2),) + out)
        self.check_cell(2, 8, 20, ahead + (("move", 14, 7, 2),) + out)
        self.check_cell(2, 14, 20, ahead + (("move", 14, 19, 2),) + out)
        self.check_cell(2, 5, 20, ahead + (("move", 4, 7, 2),) + out)
        self.check_cell(2, 8, 9, ahead + (("row", 8, (1, 2)),) + out)
        self.check_cell(2, 5, 9, ahead + (("out", 3, 9),))

    def test_the_first_bad_row_counts(self):
        code = (("row", 9, (1,)), ("row", 9, (1,)), ("row", 0, (1,)), ("row", 0, (1,)), ("out", 5, 1))
        self.check_cell(1, 9, 10, code)
        self.check_cell(0, 9, 9, code)

    def test_bad_inputs(self):
        code = (("in", 0, "xs", 2), ("out", 0, 2))
        for inputs in ((), (("ys", (1, 2)),), (("xs", (1,)),), (("xs", (1, 2, 3)),), (("xs", ()),), (("xs", None),),
                       (("xs", "ab"),), (("xs", (1, -1)),), (("xs", (1000003, 1)),), (("xs", (1, None)),),
                       (("xs", (1, "2")),), (("xs", (1, (2,))),), (("xs", 12),), (("x", (1, 2)), ("xss", (1, 2)))):
            self.assert_refused(BadInput, "xs", run, 9, code, inputs)
        self.check(((0, 1000002), (2, 2), 2, 0), 9, code, (("xs", (0, 1000002)),))

    def test_a_bad_input_comes_ahead_of_a_bad_cell_in_one_row(self):
        for heap, inputs in ((9, (("xs", (1,)),)), (9, ()), (0, ()), (1, (("xs", None),))):
            self.assert_refused(BadInput, "xs", run, heap, (("in", 0, "xs", 2), ("out", 0, 2)), inputs)
        code = (("row", 0, (7,)), ("in", 0, "xs", 2), ("out", 0, 2))
        self.assert_refused(BadInput, "xs", run, 9, code, ())
        self.check_cell(1, 0, 9, code, (("xs", (1, 2)),))
        # A bad cell of an earlier row comes ahead, a bad input of a later one does not.
        code = (("row", 0, (7,)), ("row", 0, (7,)), ("in", 4, "xs", 2), ("out", 0, 1))
        self.check_cell(1, 0, 9, code)
        code = (("in", 4, "ys", 1), ("row", 4, (7,)), ("in", 0, "xs", 1), ("out", 0, 1))
        self.assert_refused(BadInput, "ys", run, 9, code, ())
        self.check_cell(1, 4, 9, code, (("ys", (1,)),))

    def test_cells_left_behind(self):
        self.assert_refused(BadCode, 2, run, 9, (("row", 0, (1, 2)), ("out", 0, 1)), ())
        self.assert_refused(BadCode, 3, run, 9, (("row", 0, (1, 2)), ("row", 5, (1, 2)), ("out", 0, 2)), ())
        self.assert_refused(BadCode, 3, run, 9, (("row", 0, (1, 2)), ("move", 1, 5, 1), ("out", 5, 1)), ())
        # A bad cell of the last row comes ahead.
        self.check_cell(2, 2, 9, (("row", 0, (1, 2)), ("row", 5, (1, 2)), ("out", 0, 3)))

    def test_random_codes_against_the_words(self):
        kinds = {}
        for code in random_codes(241, 6000):
            self.compare(kinds, 20, code)
        self.assertGreater(min(kinds[kind] for kind in (BadCell, BadInput, BadCode, tuple)), 20)

    def test_codes_that_run_and_the_same_ones_spoilt_against_the_words(self):
        dice = random.Random(242)
        kinds = {}
        for code in running_codes(243, 1200, 24):
            self.compare(kinds, 24, code)
            self.assertIs(tuple, outcome(24, code, INPUTS)[0].__class__)
            for _ in range(4):
                self.compare(kinds, dice.choice((24, 24, 24, 20)), spoilt_code(dice, code))
        self.assertGreater(min(kinds[kind] for kind in (BadCell, BadCode, tuple)), 100)

    def compare(self, kinds, heap, code):
        expected = run_by_word(heap, code, INPUTS)
        self.assertEqual(expected, outcome(heap, code, INPUTS), code)
        kind = tuple if expected[0].__class__ is tuple else expected[0]
        kinds[kind] = kinds.get(kind, 0) + 1


if __name__ == "__main__":
    unittest.main()
