"""[15]: the best orders that finish one branch before the next."""

import random
import unittest

from hillrooms.branches import best_branch_order, best_branch_peak
from hillrooms.heights import peak
from hillrooms.least import least_peak
from hillrooms.orders import branchwise
from hillrooms.printer import told_text
from hillrooms.reader import read
from tests.refusals import SizedCase
from tests.reckoner import worked_out
from tests.runs import all_orders, random_order, run_by_word, stands_side_by_side
from tests.samples import HOLDS, TREE
from tests.trees import bush, chain, parts_by_number, sized_programs


def best_by_word(program):
    """The best branch peak and its order, joint by joint as [15] says it."""
    facts = worked_out(program)
    parts = parts_by_number(program)

    def best(number):
        found = [(best(part), place, part) for place, part in enumerate(parts[number])]
        found.sort(key=lambda entry: (facts[entry[2]][0] - entry[0][0], entry[1]))
        peaks, order, made = [], (), 0
        for (highest, steps), _, part in found:
            peaks.append(made + highest)
            order += steps
            made += facts[part][0]
        size, room, _ = facts[number]
        return max(peaks + [made + room + size]), order + (number,)

    return best(0)


class BranchesTest(SizedCase):

    def check(self, highest, order, text):
        self.assertEqual(highest, best_branch_peak(read(text)), text)
        self.assertEqual(order, best_branch_order(read(text)), text)

    def test_the_example(self):
        self.assertEqual(40, best_branch_peak(HOLDS))
        self.assertEqual((6, 5, 4, 3, 2, 1, 12, 11, 10, 9, 8, 7, 0), best_branch_order(HOLDS))

    def test_one_joint_and_one_chain(self):
        self.check(3, (0,), "[1 2 3]")
        self.check(64, (0,), "in a 64")
        self.assertEqual(4, best_branch_peak(chain(40)))
        self.assertEqual(tuple(range(40))[::-1], best_branch_order(chain(40)))

    def test_the_joint_itself_may_need_most(self):
        self.check(12, (1, 2, 0), "add([1 2 3 4], [5 6 7 8])")
        self.check(4, (1, 2, 0), "dot([1], [2])")
        self.check(16, (1, 0), "hold 10([1 2 3])")

    def test_a_part_may_need_most_beside_those_made_before_it(self):
        # 14 less 1 and 13 less 1: 14, then 1 + 13.
        self.check(14, (5, 4, 3, 2, 1, 0), "add(sum(hold 9([1 2])), sum([1 2 3 4 5 6 7 8 9 10 11 12 13]))")
        self.check(14, (2, 1, 5, 4, 3, 0), "add(sum([1 2 3 4 5 6 7 8 9 10 11 12 13]), sum(hold 9([1 2])))")

    def test_peaks_less_sizes_count_not_peaks_alone(self):
        # 22 less 5 is below 21 less 1: 21, then 1 + 22.
        self.check(23, (7, 6, 5, 4, 3, 2, 1, 0), "cat(rep 5(sum(hold 20([1]))), sum(hold 15([1 2 3])))")
        self.check(23, (3, 2, 1, 7, 6, 5, 4, 0), "cat(sum(hold 15([1 2 3])), rep 5(sum(hold 20([1]))))")

    def test_equal_parts_from_the_left(self):
        self.check(8, (1, 2, 3, 4, 0), "cat([1], [2], [3], [4])")
        # 11 less 1 and 12 less 2.
        self.check(13, (3, 2, 1, 5, 4, 0), "cat(sum(hold 9([1])), hold 8([1 2]))")
        self.check(13, (2, 1, 5, 4, 3, 0), "cat(hold 8([1 2]), sum(hold 9([1])))")
        self.check(13, (4, 3, 2, 7, 6, 5, 1, 0), "rev(cat(sum(hold 9([1])), [4], hold 8([1 2])))")

    def test_each_part_in_its_own_best_order(self):
        self.check(14, (12, 11, 10, 9, 8, 7, 6, 5, 4, 3, 2, 1, 0),
                   "cat(add(sum([1 2]), sum(hold 9([3]))), sub(top([4 5 6]), top(hold 12([7]))))")
        self.check(11, (5, 4, 3, 2, 1, 0), "add(sum([1 2]), sum(hold 9([3])))")

    def test_many_programs_against_the_words(self):
        for program in sized_programs(151, 200, 40) + [bush(40), TREE, HOLDS]:
            highest, order = best_by_word(program)
            self.assertEqual(highest, best_branch_peak(program), told_text(program))
            self.assertEqual(order, best_branch_order(program), told_text(program))
            self.assertIs(True, branchwise(program, order))
            self.assertEqual(highest, peak(program, order))
            self.assertLessEqual(least_peak(program), highest)

    def test_no_branchwise_order_of_a_small_program_has_a_lesser_peak(self):
        listed = 0
        for program in sized_programs(152, 400, 8):
            peaks = [max(needed for needed, _, _ in run_by_word(program, order)) for order in all_orders(program)
                     if stands_side_by_side(program, order)]
            self.assertEqual(min(peaks), best_branch_peak(program), told_text(program))
            listed += min(peaks) < max(peaks)
        self.assertGreater(listed, 40)

    def test_no_branchwise_order_of_a_greater_program_has_a_lesser_peak(self):
        dice = random.Random(153)
        for program in sized_programs(154, 150, 40):
            for _ in range(4):
                order = random_order(dice, program, False)
                self.assertLessEqual(best_branch_peak(program), peak(program, order))

    def test_least_peak_may_be_less(self):
        self.assertEqual((36, 40), (least_peak(HOLDS), best_branch_peak(HOLDS)))
        self.assertLess(0, sum(least_peak(program) < best_branch_peak(program)
                               for program in sized_programs(155, 400, 40)))

    def test_kinds_and_names_of_arguments(self):
        self.assertIs(int, best_branch_peak(program=TREE).__class__)
        self.assertEqual((2, 3, 1, 6, 5, 4, 0), best_branch_order(program=TREE))
        self.assertIs(tuple, best_branch_order(program=TREE).__class__)

    def test_refusals(self):
        self.assert_programs_refused(best_branch_peak)
        self.assert_programs_refused(best_branch_order)


if __name__ == "__main__":
    unittest.main()
