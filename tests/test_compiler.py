"""[23]: programs compiled, in each of the three ways."""

import random
import unittest

from hillrooms.compiler import compiled
from hillrooms.errors import BadCell, BadInput, BadOrder, BadWay, NotBranchwise, Unequal
from hillrooms.heights import peak
from hillrooms.machine import code_right, run
from hillrooms.orders import first_order
from hillrooms.plainly import plain
from hillrooms.pools import pool_heap, pools
from hillrooms.reader import read
from hillrooms.slides import slid
from hillrooms.stacks import stacked
from tests.inputs import drawn_inputs
from tests.lays import programs_and_branch_orders, programs_and_orders
from tests.reckoner import worked_out
from tests.refusals import NO_ORDERS, NO_PROGRAMS, NO_SIZES, SizedCase
from tests.samples import HOLDS, TREE
from tests.trees import bush, chain, deep, numbered, parts_by_number

WAYS = ("slid", "stacked", "pools")
LAYINGS = {"slid": slid, "stacked": stacked, "pools": pools}


def code_by_word(program, order, way):
    """The code of [23] out of the laying of [17], [18] or [19]."""
    facts = worked_out(program)
    parts = parts_by_number(program)
    all_joints = numbered(program)
    places = {}
    code = []
    for number, place, room_place, moves in LAYINGS[way](program, order):
        for joint, goal in moves:
            code.append(("move", places[joint], goal, facts[joint][0]))
            places[joint] = goal
        op, told, _ = all_joints[number]
        if op == "row":
            code.append(("row", place, told))
        elif op == "in":
            code.append(("in", place, told[0], told[1]))
        else:
            pairs = tuple((places[part], facts[part][0]) for part in parts[number])
            code.append(("do", op, told, pairs, place, room_place, facts[number][1]))
        places[number] = place
    return tuple(code) + (("out", places[0], facts[0][0]),)


def drawn(seed, how_many):
    """Triples (program, order, way)."""
    found = [(program, order, way) for program, order in programs_and_orders(seed, how_many)
             for way in ("slid", "pools")]
    return found + [(program, order, "stacked") for program, order in programs_and_branch_orders(seed + 1, how_many)]


class CompiledTest(SizedCase):

    def check(self, expected, text, order, way):
        self.assertEqual(expected, compiled(read(text), order, way), (text, way))

    def test_the_example(self):
        self.check((6, (("row", 0, (1,)), ("do", "rep", (2,), ((0, 1),), 1, 0, 0), ("move", 1, 0, 2),
                        ("do", "rep", (2,), ((0, 2),), 2, 0, 0), ("out", 2, 4))),
                   "rep 2(rep 2([1]))", (2, 1, 0), "slid")

    def test_the_example_in_the_other_ways(self):
        self.check((6, (("row", 0, (1,)), ("do", "rep", (2,), ((0, 1),), 4, 0, 0),
                        ("do", "rep", (2,), ((4, 2),), 0, 0, 0), ("out", 0, 4))),
                   "rep 2(rep 2([1]))", (2, 1, 0), "stacked")
        self.check((7, (("row", 0, (1,)), ("do", "rep", (2,), ((0, 1),), 1, 0, 0),
                        ("do", "rep", (2,), ((1, 2),), 3, 0, 0), ("out", 3, 4))),
                   "rep 2(rep 2([1]))", (2, 1, 0), "pools")

    def test_one_joint(self):
        for way in WAYS:
            self.check((3, (("row", 0, (7, 8, 9)), ("out", 0, 3))), "[7 8 9]", (0,), way)
            self.check((64, (("in", 0, "xs", 64), ("out", 0, 64))), "in xs 64", (0,), way)

    def test_inputs_and_rooms(self):
        self.check((12, (("in", 0, "a", 4), ("do", "sort", (), ((0, 4),), 8, 4, 4),
                         ("do", "rev", (), ((8, 4),), 0, 0, 0), ("out", 0, 4))),
                   "rev(sort(in a 4))", (2, 1, 0), "stacked")
        self.check((12, (("in", 0, "a", 4), ("do", "sort", (), ((0, 4),), 4, 8, 4),
                         ("do", "rev", (), ((4, 4),), 0, 0, 0), ("out", 0, 4))),
                   "rev(sort(in a 4))", (2, 1, 0), "pools")
        self.check((12, (("in", 0, "a", 4), ("do", "sort", (), ((0, 4),), 4, 8, 4),
                         ("do", "rev", (), ((4, 4),), 8, 0, 0), ("out", 8, 4))),
                   "rev(sort(in a 4))", (2, 1, 0), "slid")

    def test_parts_from_the_left_whatever_the_order(self):
        self.check((6, (("row", 0, (3,)), ("row", 1, (1, 2)), ("do", "cat", (), ((1, 2), (0, 1)), 3, 0, 0),
                        ("out", 3, 3))), "cat([1 2], [3])", (2, 1, 0), "slid")

    def test_several_moves_ahead_of_the_row_of_their_step(self):
        # Joints 4 and 3 are moved ahead of the hold, so the hold's part is read at its new place.
        self.check((8, (("row", 0, (1, 2, 3)), ("do", "sum", (), ((0, 3),), 3, 0, 0), ("row", 4, (4,)),
                        ("move", 3, 0, 1), ("move", 4, 1, 1), ("do", "hold", (3,), ((1, 1),), 2, 3, 3),
                        ("do", "cat", (), ((2, 1), (0, 1)), 3, 0, 0), ("move", 3, 0, 2),
                        ("do", "rep", (3,), ((0, 2),), 2, 0, 0), ("out", 2, 6))),
                   "rep 3(cat(hold 3([4]), sum([1 2 3])))", (5, 4, 3, 2, 1, 0), "slid")

    def test_a_part_that_was_moved_at_an_earlier_step(self):
        # Joint 2 is moved ahead of the row of joint 4, and read at joint 0.
        self.check((8, (("row", 0, (9,)), ("row", 1, (1, 2, 3, 4, 5)), ("do", "sum", (), ((1, 5),), 6, 0, 0),
                        ("move", 6, 1, 1), ("row", 2, (6, 7)), ("do", "cat", (), ((0, 1), (1, 1), (2, 2)), 4, 0, 0),
                        ("out", 4, 4))),
                   "cat([9], sum([1 2 3 4 5]), [6 7])", (1, 3, 2, 4, 0), "slid")

    def test_kinds_and_names_of_arguments(self):
        found = compiled(program=TREE, order=(2, 3, 1, 6, 5, 4, 0), way="slid")
        self.assertEqual((6, code_by_word(TREE, (2, 3, 1, 6, 5, 4, 0), "slid")), found)
        self.assertEqual([tuple, int, tuple], [thing.__class__ for thing in (found,) + found])
        for row in found[1]:
            self.assertIs(tuple, row.__class__)
            if row[0] == "do":
                self.assertEqual({tuple}, {thing.__class__ for thing in row[2:4] + row[3]})

    def test_many_programs_against_the_words(self):
        moved = 0
        for program, order, way in drawn(231, 150):
            heap, code = compiled(program, order, way)
            self.assertEqual(pool_heap(program, order) if way == "pools" else peak(program, order), heap)
            self.assertEqual(code_by_word(program, order, way), code)
            moved += any(row[0] == "move" for row in code)
        self.assertGreater(moved, 50)

    def test_it_runs_and_tells_the_value_in_the_heap_that_it_uses(self):
        dice = random.Random(232)
        for program, order, way in drawn(233, 150) + [(HOLDS, first_order(HOLDS), way) for way in WAYS]:
            inputs = drawn_inputs(dice, program)
            heap, code = compiled(program, order, way)
            value, held, highest, moved = run(heap, code, inputs)
            self.assertEqual(plain(program, inputs), value)
            self.assertEqual(peak(program, order), max(held))
            self.assertEqual(heap, highest)
            self.assertEqual(sum(row[3] for row in code if row[0] == "move"), moved)
            self.assertIs(True, code_right(program, heap, code, inputs))
            self.assertEqual(value, run(heap + dice.randint(1, 99), code, inputs)[0])

    def test_a_heap_of_one_cell_less_is_refused(self):
        dice = random.Random(234)
        for program, order, way in drawn(235, 100):
            inputs = drawn_inputs(dice, program)
            heap, code = compiled(program, order, way)
            with self.assertRaises(BadCell) as caught:
                run(heap - 1, code, inputs)
            self.assertEqual(heap - 1, caught.exception.what[1])
            self.assertIs(False, code_right(program, heap - 1, code, inputs))

    def test_inputs_that_plain_refuses(self):
        heap, code = compiled(read("cat(in a 2, in b 1)"), (2, 1, 0), "slid")
        self.assert_refused(BadInput, "b", run, heap, code, ())
        self.assert_refused(BadInput, "a", run, heap, code, (("b", (1,)),))
        self.assert_refused(BadInput, "a", run, heap, code, (("b", (1,)), ("a", (1, 2, 3))))

    def test_the_largest_programs(self):
        for program in (bush(40), chain(40)):
            for way in WAYS:
                heap, code = compiled(program, first_order(program), way)
                self.assertEqual((plain(program, ()), heap), run(heap, code, ())[0:3:2])


class CompiledRefusalsTest(SizedCase):

    def test_programs_sizes_and_orders(self):
        for way in WAYS + ("no", ""):
            self.assert_orders_refused(compiled, way)

    def test_ways(self):
        for way in ("", "Slid", "slid ", "stack", "pool", "heap", "slidd", "pools,", "s"):
            self.assert_refused(BadWay, way, compiled, TREE, (2, 3, 1, 6, 5, 4, 0), way)
        for way in (None, 0, 1, (), ("slid",), deep(90)):
            self.assert_refused(BadWay, way, compiled, TREE, (2, 3, 1, 6, 5, 4, 0), way)

    def test_orders_that_are_not_branchwise(self):
        for order in ((2, 6, 3, 1, 5, 4, 0), (6, 2, 5, 3, 4, 1, 0), (6, 5, 2, 3, 1, 4, 0)):
            self.assert_refused(NotBranchwise, 0, compiled, TREE, order, "stacked")
            for way in ("slid", "pools"):
                heap, code = compiled(TREE, order, way)
                self.assertEqual((1, 2, 3), run(heap, code, ())[0])

    def test_two_faults_at_once(self):
        not_branchwise = (2, 6, 3, 1, 5, 4, 0)
        self.assert_refused(BadWay, "stack", compiled, TREE, not_branchwise, "stack")
        self.assert_refused(BadOrder, 7, compiled, TREE, not_branchwise + (0,), "stacked")
        self.assert_refused(BadOrder, 6, compiled, TREE, not_branchwise[:-1], "stack")
        for order, index in NO_ORDERS:
            self.assert_refused(BadOrder, index, compiled, TREE, order, "no way")
        for error, what, thing in NO_PROGRAMS + NO_SIZES:
            self.assert_refused(error, what, compiled, thing, (9, 9), "no way")
        unequal = read("add(rev([1]), rev([1 2]))")
        for way in WAYS + ("no way",):
            self.assert_refused(Unequal, 0, compiled, unequal, (4, 2, 3, 1, 0), way)


if __name__ == "__main__":
    unittest.main()
