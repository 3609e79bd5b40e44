"""[14]: papers, and whether they are right."""

import random
import unittest

from hillrooms.heights import peak
from hillrooms.least import least_peak, row_of
from hillrooms.leastorders import least_order
from hillrooms.papers import paper, paper_right
from hillrooms.reader import read
from tests.refusals import NO_ORDERS, NO_PROGRAMS, NO_SIZES, SizedCase
from tests.runs import all_orders, pairs, random_order, run_by_word
from tests.samples import HOLDS, TREE
from tests.trees import NO_TRIPLES, bush, chain, count, on, over, row, sized_programs

SORT = read("sort([3 1 2])")
SORT_ROWS = (((9, 3),), ((3, 3),))
HOLDS_ROWS = (
    ((36, 1), (35, 2), (23, 11)),
    ((36, 1), (18, 6)), ((36, 1), (7, 6)), ((36, 1),), ((36, 8),), ((9, 8),), ((1, 1),),
    ((34, 1), (17, 5)), ((34, 1), (6, 5)), ((34, 1),), ((34, 9),), ((10, 9),), ((1, 1),),
)


class PaperTest(SizedCase):

    def test_the_example(self):
        self.assertEqual((9, (1, 0), SORT_ROWS), paper(SORT))

    def test_the_least_order_its_peak_and_all_rows(self):
        self.assertEqual((3, (0,), (((3, 3),),)), paper(row(7, 8, 9)))
        self.assertEqual((36, least_order(HOLDS), HOLDS_ROWS), paper(HOLDS))

    def test_many_programs(self):
        for program in sized_programs(141, 150, 40) + [bush(40), chain(40)]:
            rows = tuple(pairs(row_of(program, joint)) for joint in range(count(program)))
            self.assertEqual((least_peak(program), least_order(program), rows), paper(program))
            self.assertEqual(peak(program, least_order(program)), paper(program)[0])

    def test_kinds_and_names_of_arguments(self):
        found = paper(program=HOLDS)
        self.assertEqual({tuple}, {found.__class__, found[1].__class__, found[2].__class__}
                         | {row.__class__ for row in found[2]} | {pair.__class__ for row in found[2] for pair in row})
        self.assertEqual({2}, {len(pair) for row in found[2] for pair in row})

    def test_refusals(self):
        self.assert_programs_refused(paper)


class PaperRightTest(SizedCase):

    def check(self, expected, *things):
        self.assertIs(expected, paper_right(*things), things)

    def test_papers(self):
        self.check(True, SORT, 9, (1, 0), SORT_ROWS)
        self.check(True, row(7, 8, 9), 3, (0,), (((3, 3),),))
        self.check(True, HOLDS, 36, least_order(HOLDS), HOLDS_ROWS)
        self.assertIs(True, paper_right(program=SORT, peak=9, order=(1, 0), rows=SORT_ROWS))

    def test_another_order_with_the_same_peak(self):
        # Made with joint 2 ahead of joint 8 the hills stay at 36 and below.
        self.check(True, HOLDS, 36, (6, 5, 4, 3, 12, 11, 10, 9, 2, 8, 1, 7, 0), HOLDS_ROWS)
        self.check(True, HOLDS, 36, (6, 5, 4, 3, 12, 11, 10, 9, 8, 7, 2, 1, 0), HOLDS_ROWS)
        _, _, rows = paper(TREE)
        for order in all_orders(TREE):
            self.check(peak(TREE, order) == 6, TREE, 6, order, rows)

    def test_an_order_with_a_greater_peak(self):
        order = (6, 5, 4, 3, 2, 1, 12, 11, 10, 9, 8, 7, 0)
        self.assertEqual(40, peak(HOLDS, order))
        self.check(False, HOLDS, 40, order, HOLDS_ROWS)
        self.check(False, HOLDS, 36, order, HOLDS_ROWS)
        self.check(False, HOLDS, 40, order, (((40, 1), (35, 2), (23, 11)),) + HOLDS_ROWS[1:])
        self.check(False, HOLDS, 40, order, (((40, 11),),) + HOLDS_ROWS[1:])

    def test_a_wrong_peak(self):
        for number in (8, 10, 0, -9, 10 ** 30, 3):
            self.check(False, SORT, number, (1, 0), SORT_ROWS)
            self.check(False, SORT, number, (1, 0), (((number, 3),), ((3, 3),)))

    def test_a_wrong_order(self):
        for order in ((0, 1), (1,), (0,), (), (1, 1), (1, 0, 0), (1, 0, 2), (2, 0), (-1, 0), (1, 0) * 4000):
            self.check(False, SORT, 9, order, SORT_ROWS)
        for order, _ in NO_ORDERS:
            self.check(False, TREE, 6, order, paper(TREE)[2])

    def test_a_wrong_row(self):
        for rows in ((((9, 3),), ((3, 2),)), (((9, 3),), ((4, 3),)), (((9, 2),), ((3, 3),)), (((10, 3),), ((3, 3),)),
                     (((9, 3), (3, 3)), ((3, 3),)), (((9, 3),), ((3, 3), (3, 3))), (((9, 3),), ()), ((), ((3, 3),)),
                     (((3, 3),), ((9, 3),)), (((9, 4),), ((3, 3),))):
            self.check(False, SORT, 9, (1, 0), rows)
        order = least_order(HOLDS)
        for joint, right in enumerate(HOLDS_ROWS):
            for at, (hill, valley) in enumerate(right):
                for pair in ((hill + 1, valley), (hill - 1, valley), (hill, valley + 1), (hill, valley - 1)):
                    wrong = right[:at] + (pair,) + right[at + 1:]
                    self.check(False, HOLDS, 36, order, HOLDS_ROWS[:joint] + (wrong,) + HOLDS_ROWS[joint + 1:])
            for wrong in (right[1:], right[:-1], right + right[-1:], right[::-1] + ((1, 1),)):
                self.check(False, HOLDS, 36, order, HOLDS_ROWS[:joint] + (wrong,) + HOLDS_ROWS[joint + 1:])

    def test_rows_that_agree_with_each_other_but_not_with_the_leaves(self):
        self.check(False, read("rev([1 2])"), 6, (1, 0), (((6, 3),), ((3, 3),)))
        self.check(False, read("rev([1 2])"), 4, (1, 0), (((4, 2),), ((4, 2),)))

    def test_a_row_too_few_or_too_many(self):
        for rows in (SORT_ROWS[:1], SORT_ROWS[1:], (), SORT_ROWS + (((3, 3),),), SORT_ROWS + ((),), ((),) + SORT_ROWS,
                     SORT_ROWS[:1] + SORT_ROWS):
            self.check(False, SORT, 9, (1, 0), rows)

    def test_rows_in_triples(self):
        self.check(False, SORT, 9, (1, 0), (row_of(SORT, 0), row_of(SORT, 1)))
        self.check(False, SORT, 9, (1, 0), (((9, 3, ()),), ((3, 3),)))
        self.check(False, SORT, 9, (1, 0), (((9, 3),), ((3, 3, (1,)),)))

    def test_odd_things_in_each_place(self):
        for thing in NO_TRIPLES:
            self.check(False, thing, 9, (1, 0), SORT_ROWS)
            self.check(False, SORT, thing, (1, 0), SORT_ROWS)
            self.check(False, SORT, 9, thing, SORT_ROWS)
            if thing != 0:
                self.check(False, SORT, 9, (1, thing), SORT_ROWS)
            self.check(False, SORT, 9, (thing, 0), SORT_ROWS)
            self.check(False, SORT, 9, (1, 0), thing)
            self.check(False, SORT, 9, (1, 0), (thing, ((3, 3),)))
            self.check(False, SORT, 9, (1, 0), (((9, 3),), thing))
            self.check(False, SORT, 9, (1, 0), (((9, 3),), (thing,)))
            self.check(False, SORT, 9, (1, 0), (((9, 3),), ((3, thing),)))
            self.check(False, SORT, 9, (1, 0), (((thing, 3),), ((3, 3),)))
            self.check(False, SORT, thing, (1, 0), (((thing, 3),), ((3, 3),)))
            self.check(False, thing, thing, thing, thing)
        self.check(False, SORT, (9,), (1, 0), SORT_ROWS)
        self.check(False, SORT, "9", ("1", "0"), SORT_ROWS)
        self.check(False, SORT, 9, ((1,), (0,)), SORT_ROWS)

    def test_refused_programs_and_sizes(self):
        for _, _, thing in NO_PROGRAMS + NO_SIZES:
            self.check(False, thing, 9, (1, 0), SORT_ROWS)
            self.check(False, thing, 3, (0,), (((3, 3),),))
            self.check(False, on("rev", thing), 9, (1, 0), SORT_ROWS)
        self.check(False, read("add([1], [1 2])"), 4, (1, 2, 0), (((4, 1),), ((1, 1),), ((2, 2),)))
        self.check(False, over(row(1), 40), 2, tuple(range(41))[::-1], ((((2, 1),),) * 40 + (((1, 1),),)))

    def test_many_programs(self):
        dice = random.Random(142)
        answers = {True: 0, False: 0}
        for program in sized_programs(143, 200, 40):
            number, order, rows = paper(program)
            self.check(True, program, number, order, rows)
            other = random_order(dice, program, True)
            highest = max(needed for needed, _, _ in run_by_word(program, other))
            self.check(highest == number, program, number, other, rows)
            self.check(highest == number, program, highest, other, rows)
            answers[highest == number] += 1
        self.assertGreater(min(answers.values()), 20)

    def test_no_order_of_a_small_program_has_a_peak_below_that_of_a_right_paper(self):
        answers = {True: 0, False: 0}
        for program in sized_programs(144, 150, 7):
            rows = paper(program)[2]
            orders = all_orders(program)
            peaks = [peak(program, order) for order in orders]
            for order, highest in zip(orders, peaks):
                self.check(highest == min(peaks), program, highest, order, rows)
                answers[highest == min(peaks)] += 1
        self.assertGreater(min(answers.values()), 100)


if __name__ == "__main__":
    unittest.main()
