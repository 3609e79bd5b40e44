"""[18]: layings of branchwise orders in two stacks."""

import unittest

from hillrooms.errors import BadInput, BadOrder, BadPart, NotBranchwise, TooGreat, TooMany, Unequal
from hillrooms.heights import peak
from hillrooms.orders import branchwise, first_order
from hillrooms.reader import read
from hillrooms.stacks import stacked
from tests.lays import programs_and_branch_orders, programs_and_orders, right_by_word, used_cells
from tests.reckoner import worked_out
from tests.refusals import NO_PROGRAMS, SizedCase
from tests.runs import all_orders, heights_by_word, stands_side_by_side
from tests.samples import TREE
from tests.trees import bush, chain, on, parts_by_number, row, sized_programs


def depths_by_word(program):
    found = []

    def walk(joint, depth):
        found.append(depth)
        for part in joint[2]:
            walk(part, depth + 1)

    walk(program, 0)
    return found


def stacked_by_word(program, order):
    """The laying of [18], by two heaps of cells, each cell telling whose value it holds."""
    facts = worked_out(program)
    parts = parts_by_number(program)
    depth = depths_by_word(program)
    heap = max(needed for needed, _ in heights_by_word(program, order))
    sides = {0: [], 1: []}
    found = []
    for number in order:
        size, room, _ = facts[number]
        side = sides[depth[number] % 2]
        place = len(side) if depth[number] % 2 == 0 else heap - len(side) - size
        side.extend([number] * size)
        found.append((number, place, len(sides[0]) if room else 0, ()))
        for key in sides:
            sides[key] = [joint for joint in sides[key] if joint not in parts[number]]
    return tuple(found)


class StackedTest(SizedCase):

    def check(self, expected, text, order):
        self.assertEqual(expected, stacked(read(text), order), text)

    def test_the_example(self):
        program = read("rev(sort(in a 4))")
        self.assertEqual(((2, 0, 0, ()), (1, 8, 4, ()), (0, 0, 0, ())), stacked(program, (2, 1, 0)))
        self.assertEqual(12, peak(program, (2, 1, 0)))

    def test_one_joint(self):
        self.check(((0, 0, 0, ()),), "in xs 64", (0,))

    def test_leaves_of_odd_and_of_even_depth(self):
        self.check(((1, 2, 0, ()), (0, 0, 0, ())), "rev([1 2])", (1, 0))
        # Heaps of 7 and of 8 cells; a leaf of depth 1 lies at the end, one of depth 2 at the beginning.
        self.check(((1, 5, 0, ()), (2, 4, 0, ()), (0, 0, 2, ())), "blend([1 2], [3])", (1, 2, 0))
        self.check(((2, 0, 0, ()), (1, 7, 0, ()), (4, 0, 0, ()), (3, 4, 0, ()), (0, 0, 0, ())),
                   "cat(sum([1 2 3]), rev([1 2 3]))", (2, 1, 4, 3, 0))

    def test_a_new_one_is_laid_next_to_those_of_its_kind(self):
        self.check(((3, 7, 0, ()), (1, 6, 0, ()), (4, 5, 0, ()), (2, 4, 0, ()), (0, 0, 0, ())),
                   "cat([1], [2], [3], [4])", (3, 1, 4, 2, 0))
        self.check(((3, 0, 0, ()), (2, 3, 0, ()), (1, 5, 0, ()), (0, 0, 0, ())),
                   "rev(cat([1 2], [3 4 5]))", (3, 2, 1, 0))

    def test_several_held_values_on_either_side(self):
        # Joints 1 and 2, of depth 1, wait at the end of 10 cells, joints 4 and 5, of depth 2, at the beginning.
        self.check(((1, 9, 0, ()), (2, 7, 0, ()), (4, 0, 0, ()), (5, 1, 0, ()), (3, 5, 0, ()), (0, 0, 0, ())),
                   "cat([1], [2 3], cat([5], [6]))", (1, 2, 4, 5, 3, 0))
        # Joint 7, of depth 5, is laid next to those of the depths 1 and 3.
        self.check(((1, 9, 0, ()), (4, 7, 0, ()), (7, 5, 0, ()), (6, 0, 2, ()), (5, 5, 0, ()), (3, 0, 0, ()),
                    (2, 5, 0, ()), (0, 0, 0, ())),
                   "cat([1], rev(cat([2 3], rev(sort([4 5])))))", (1, 4, 7, 6, 5, 3, 2, 0))

    def test_a_chain_turns_from_side_to_side(self):
        laying = stacked(chain(40), tuple(range(40))[::-1])
        self.assertEqual(tuple((number, 2 * (number % 2), 0, ()) for number in reversed(range(40))), laying)

    def test_the_room_beside_a_new_value_of_even_depth(self):
        self.check(((1, 6, 0, ()), (0, 0, 3, ())), "sort([3 1 2])", (1, 0))
        self.check(((1, 4, 0, ()), (0, 0, 1, ())), "hold 3([7])", (1, 0))

    def test_the_room_beside_a_new_value_of_odd_depth(self):
        self.check(((2, 0, 0, ()), (1, 6, 3, ()), (0, 0, 0, ())), "sum(sort([3 1 2]))", (2, 1, 0))
        self.check(((2, 0, 0, ()), (3, 2, 0, ()), (1, 6, 4, ()), (0, 0, 0, ())),
                   "rep 3(dot([1 2], [3 4]))", (2, 3, 1, 0))

    def test_the_room_above_values_of_even_depth_that_wait(self):
        # Joint 2 waits in the cells 0 and 1; joint 4 has an odd depth, joint 3 an even one.
        self.check(((2, 0, 0, ()), (5, 2, 0, ()), (4, 5, 3, ()), (3, 2, 3, ()), (1, 3, 0, ()), (0, 0, 0, ())),
                   "rev(cat([1 2], sort(sort([3]))))", (2, 5, 4, 3, 1, 0))

    def test_a_room_of_nothing_is_at_the_place_0(self):
        self.check(((1, 3, 0, ()), (0, 0, 0, ())), "hold 0([3 1 2])", (1, 0))
        self.check(((2, 0, 0, ()), (1, 3, 0, ()), (0, 0, 0, ())), "rev(hold 0([3 1 2]))", (2, 1, 0))

    def test_kinds_and_names_of_arguments(self):
        found = stacked(program=TREE, order=(2, 3, 1, 6, 5, 4, 0))
        self.assertEqual(((2, 0, 0, ()), (3, 1, 0, ()), (1, 4, 0, ()), (6, 3, 0, ()), (5, 0, 0, ()), (4, 3, 0, ()),
                          (0, 0, 0, ())), found)
        for thing in found + (found, found[5][3]):
            self.assertIs(tuple, thing.__class__)

    def test_many_programs_against_the_words(self):
        for program, order in programs_and_branch_orders(181, 250):
            self.assertEqual(stacked_by_word(program, order), stacked(program, order))

    def test_all_lies_within_the_peak_and_no_two_things_share_a_cell(self):
        for program, order in programs_and_branch_orders(182, 250) + [(bush(40), first_order(bush(40)))]:
            heap = peak(program, order)
            laying = stacked(program, order)
            self.assertTrue(right_by_word(program, order, heap, laying))
            self.assertEqual(heap, used_cells(program, laying))

    def test_every_order_of_small_programs(self):
        answers = {True: 0, False: 0}
        for program in sized_programs(183, 60, 7) + [TREE]:
            for order in all_orders(program):
                answer = stands_side_by_side(program, order)
                self.assertIs(answer, branchwise(program, order))
                answers[answer] += 1
                if answer:
                    self.assertEqual(stacked_by_word(program, order), stacked(program, order))
                else:
                    self.assert_refused(NotBranchwise, 0, stacked, program, order)
        self.assertGreater(min(answers.values()), 50)

    def test_large_orders_that_are_not_branchwise(self):
        refused = 0
        for program, order in programs_and_orders(184, 100):
            if not stands_side_by_side(program, order):
                self.assert_refused(NotBranchwise, 0, stacked, program, order)
                refused += 1
        self.assertGreater(refused, 30)

    def test_refusals(self):
        self.assert_orders_refused(stacked)

    def test_a_refused_order_comes_ahead_of_one_that_is_not_branchwise(self):
        # Joint 6 stands between joints 2 and 3, and the end is wrong.
        self.assert_refused(BadOrder, 6, stacked, TREE, (2, 6, 3, 1, 5, 4))
        self.assert_refused(BadOrder, 6, stacked, TREE, (2, 6, 3, 1, 5, 4, 5))
        self.assert_refused(BadOrder, 7, stacked, TREE, (2, 6, 3, 1, 5, 4, 0, 0))
        self.assert_refused(NotBranchwise, 0, stacked, TREE, (2, 6, 3, 1, 5, 4, 0))

    def test_refused_programs_and_sizes_come_ahead_of_both(self):
        not_branchwise = (4, 2, 3, 1, 0)
        for order in (not_branchwise, not_branchwise[:3]):
            for error, what, thing in NO_PROGRAMS:
                # The thing stands in the place of joint 5.
                program = on("cat", on("rev", row(1)), on("rev", row(2)), thing)
                self.assert_refused(error, what if error is TooMany else what + 5, stacked, program, order)
            self.assert_refused(Unequal, 0, stacked, read("add(rev([1]), rev([1 2]))"), order)
            self.assert_refused(BadPart, 1, stacked, read("cat(part 0 2([1]), rev([1 2]))"), order)
            self.assert_refused(TooGreat, 0, stacked, read("outer(rev(in a 9), rev(in b 8))"), order)
            self.assert_refused(BadInput, "a", stacked, read("cat(rev(in a 9), rev(in a 8))"), order)


if __name__ == "__main__":
    unittest.main()
