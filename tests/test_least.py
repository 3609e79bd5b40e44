"""[13]: the rows of boughs, the least peak, and an order that has it."""

import random
import unittest

from hillrooms.errors import BadJoint
from hillrooms.follow import follows
from hillrooms.heights import peak
from hillrooms.hills import hills
from hillrooms.least import least_peak, row_of
from hillrooms.leastorders import least_order
from hillrooms.orders import is_order
from hillrooms.printer import told_text
from hillrooms.reader import read
from tests.refusals import SizedCase
from tests.reckoner import worked_out
from tests.runs import all_orders, hills_by_word, pairs, random_order, run_by_word, weave_by_word
from tests.samples import HOLDS, TREE
from tests.trees import bush, chain, count, given, numbered, on, over, parts_by_number, row, sized_programs

NINE = read("add(sum(hold 9([1])), [2])")

# Chains under one joint; the least peak of all takes turns between them.
CHAINS = (
    "cat(hold 6(rep 3(sum(hold 9([1 2])))), hold 5(rep 2(top(hold 8([3])))))",
    "add(sum(hold 12(rep 4([1]))), top(hold 9(rep 6([2]))))",
    "cat(sort(rep 3(sum(sort([1 2 3])))), sort(rep 2(sum([4 5 6 7]))))",
    "outer(part 0 2(rep 9([1])), part 1 4(hold 20(rep 5([1]))))",
    "cat(hold 3(rep 4(sum([1 2 3 4 5 6 7 8]))), rev(rep 5(sum([1 2 3 4 5 6]))))",
)


def rows_by_word(program):
    """For each joint its row, by the second hills and the second weave of the tests."""
    facts = worked_out(program)
    parts = parts_by_number(program)
    found = [()] * len(parts)
    for number in reversed(range(len(parts))):
        size, room, _ = facts[number]
        needed = sum(facts[part][0] for part in parts[number]) + room + size
        woven = weave_by_word([found[part] for part in parts[number]])
        found[number] = hills_by_word(woven + ((needed, size, (number,)),))
    return found


def small_programs(seed, how_many, most_orders):
    """Programs with two orders at least, and with so many at most."""
    found = []
    for program in sized_programs(seed, how_many * 20, 8):
        if count(program) > 3 and 1 < len(all_orders(program)) <= most_orders:
            found.append(program)
        if len(found) == how_many:
            break
    return found


def great_programs():
    """Programs of 40 joints, or a few less."""
    chains = on("cat", *[over(on("sum", over(row(1, 2, 3), 4)), 3) for _ in range(4)])
    holds = row(1)
    for room in range(13):
        holds = on("cat", on("hold", holds, told=(room,)), row(2))
    found = [bush(40), chain(40), chains, over(chains, 3), holds]
    return found + [program for program in sized_programs(131, 400, 40) if count(program) > 30]


class RowOfTest(SizedCase):

    def test_the_examples(self):
        self.assertEqual(((11, 1, (3, 2, 1)),), row_of(NINE, 1))
        self.assertEqual(((11, 1, (3, 2, 1, 4, 0)),), row_of(NINE, 0))
        self.assertEqual(((36, 1), (35, 2), (23, 11)), pairs(row_of(HOLDS, 0)))
        self.assertEqual(((36, 1, (6, 5, 4, 3)), (18, 6, (2, 1))), row_of(HOLDS, 1))
        self.assertEqual(((34, 1, (12, 11, 10, 9)), (17, 5, (8, 7))), row_of(HOLDS, 7))

    def test_a_leaf(self):
        self.assertEqual(((3, 3, (0,)),), row_of(row(7, 8, 9), 0))
        self.assertEqual(((64, 64, (0,)),), row_of(given("a", 64), 0))
        self.assertEqual(((1, 1, (3,)),), row_of(NINE, 3))
        self.assertEqual(((1, 1, (4,)),), row_of(NINE, 4))

    def test_joints_deep_in_a_program_by_the_numbers_of_the_whole(self):
        self.assertEqual(((1, 1, (12,)),), row_of(HOLDS, 12))
        self.assertEqual(((10, 9, (12, 11)),), row_of(HOLDS, 11))
        self.assertEqual(((34, 9, (12, 11, 10)),), row_of(HOLDS, 10))
        self.assertEqual(((34, 1, (12, 11, 10, 9)),), row_of(HOLDS, 9))
        self.assertEqual(((34, 1, (12, 11, 10, 9)), (6, 5, (8,))), row_of(HOLDS, 8))
        self.assertEqual(((4, 2, (39, 38, 37)),), row_of(chain(40), 37))

    def test_parts_from_the_left(self):
        self.assertEqual(((4, 2, (2, 3, 1)),), row_of(TREE, 1))
        self.assertEqual(((2, 1, (6, 5, 4)),), row_of(TREE, 4))
        # Falls: 2 for the part on the left, 1 for the other one.
        self.assertEqual(((6, 3, (2, 3, 1, 6, 5, 4, 0)),), row_of(TREE, 0))
        self.assertEqual(((8, 4, (1, 2, 3, 4, 0)),), row_of(read("cat([1], [2], [3], [4])"), 0))

    def test_the_joints_own_step_stands_in_the_run(self):
        self.assertEqual(((6, 2, (1, 0)),), row_of(read("sort([1 2])"), 0))
        # Joint 0 needs 1 + 3 cells for its parts, 1 for its room, 3 for its value.
        self.assertEqual(((8, 3, (1, 2, 0)),), row_of(read("blend([1], [1 2 3])"), 0))

    def test_kinds_and_names_of_arguments(self):
        found = row_of(program=HOLDS, joint=0)
        self.assertEqual({tuple}, {found.__class__} | {segment.__class__ for segment in found}
                         | {steps.__class__ for _, _, steps in found})

    def test_numbers_that_are_no_joints(self):
        for program in (row(1), NINE, HOLDS, chain(40)):
            for joint in (-1, -2, -count(program), -10 ** 30, count(program), count(program) + 1, 41, 10 ** 30):
                self.assert_refused(BadJoint, joint, row_of, program, joint)

    def test_refused_programs_and_sizes_come_first(self):
        for joint in (0, 1, -1, 50):
            self.assert_programs_refused(row_of, joint)

    def test_many_programs_against_the_words(self):
        for program in sized_programs(132, 120, 40):
            for joint, expected in enumerate(rows_by_word(program)):
                self.assertEqual(expected, row_of(program, joint), told_text(program))

    def test_the_row_of_each_bough_follows_that_of_each_order_of_the_bough(self):
        orders = 0
        for program in small_programs(133, 120, 150):
            for joint, bough in enumerate(numbered(program)):
                best = row_of(program, joint)
                self.assertEqual(pairs(best), pairs(row_of(bough, 0)))
                for order in all_orders(bough):
                    self.assertIs(True, follows(best, hills(run_by_word(bough, order))), (told_text(bough), order))
                    orders += 1
        self.assertGreater(orders, 2000)

    def test_the_row_follows_that_of_orders_of_greater_programs(self):
        dice = random.Random(134)
        for program in sized_programs(135, 150, 40):
            best = row_of(program, 0)
            for _ in range(4):
                order = random_order(dice, program, True)
                self.assertIs(True, follows(best, hills(run_by_word(program, order))))


class LeastTest(SizedCase):

    def test_the_examples(self):
        self.assertEqual(11, least_peak(NINE))
        self.assertEqual((3, 2, 1, 4, 0), least_order(NINE))
        self.assertEqual(36, least_peak(HOLDS))
        self.assertEqual((6, 5, 4, 3, 12, 11, 10, 9, 2, 1, 8, 7, 0), least_order(HOLDS))

    def test_one_joint_and_one_chain(self):
        self.assertEqual(3, least_peak(row(1, 2, 3)))
        self.assertEqual((0,), least_order(row(1, 2, 3)))
        self.assertEqual(4, least_peak(chain(40)))
        self.assertEqual(tuple(range(40))[::-1], least_order(chain(40)))

    def test_the_order_in_which_parts_come(self):
        # sum leaves little, so the branch that needs most comes first, wherever it stands.
        self.assertEqual((3, 2, 1, 5, 4, 0), least_order(read("add(sum(hold 9([1])), sum([2 3]))")))
        self.assertEqual((5, 4, 3, 2, 1, 0), least_order(read("add(sum([2 3]), sum(hold 9([1])))")))
        self.assertEqual((2, 1, 4, 3, 0), least_order(read("add(sum([2 3]), sum([4 5]))")))

    def test_small_programs_by_listing_all_orders(self):
        listed = small_programs(136, 150, 400) + [read(text) for text in CHAINS]
        strict = 0
        for program in listed:
            peaks = [max(needed for needed, _, _ in run_by_word(program, order)) for order in all_orders(program)]
            self.assertEqual(min(peaks), least_peak(program), told_text(program))
            strict += min(peaks) < max(peaks)
            order = least_order(program)
            self.assertIs(True, is_order(program, order))
            self.assertEqual(min(peaks), peak(program, order))
        self.assertGreater(strict, 40)

    def test_least_order_are_the_steps_of_the_row(self):
        for program in sized_programs(137, 150, 40):
            row_steps = tuple(step for _, _, steps in rows_by_word(program)[0] for step in steps)
            self.assertEqual(row_steps, least_order(program))
            self.assertEqual(row_of(program, 0)[0][0], least_peak(program))

    def test_programs_of_forty_joints(self):
        dice = random.Random(138)
        programs = great_programs()
        self.assertGreater(len(programs), 40)
        for program in programs:
            best = least_peak(program)
            order = least_order(program)
            self.assertIs(True, is_order(program, order))
            self.assertEqual(best, peak(program, order))
            for _ in range(5):
                self.assertLessEqual(best, peak(program, random_order(dice, program, True)))

    def test_kinds_and_names_of_arguments(self):
        self.assertIs(int, least_peak(program=HOLDS).__class__)
        self.assertIs(tuple, least_order(program=HOLDS).__class__)

    def test_refusals(self):
        self.assert_programs_refused(least_peak)
        self.assert_programs_refused(least_order)


if __name__ == "__main__":
    unittest.main()
