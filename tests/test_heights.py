"""[9]: how many cells the steps of an order need, how many are held behind them, and the peak."""

import random
import unittest

from hillrooms.heights import heights, peak
from hillrooms.reader import read
from tests.refusals import SizedCase
from tests.runs import heights_by_word, random_order
from tests.samples import TREE
from tests.trees import OPS, bush, chain, row, sized_programs

# For each op a program, an order and the heights.
ONE_OF_EACH = {
    "row": ("[4 5 6]", (0,), ((3, 3),)),
    "in": ("in xs 64", (0,), ((64, 64),)),
    "rev": ("rev([1 2 3])", (1, 0), ((3, 3), (6, 3))),
    "sort": ("sort([1 2 3])", (1, 0), ((3, 3), (9, 3))),
    "sum": ("sum([1 2 3])", (1, 0), ((3, 3), (4, 1))),
    "top": ("top([1 2 3])", (1, 0), ((3, 3), (4, 1))),
    "add": ("add([1 2 3], [4 5 6])", (1, 2, 0), ((3, 3), (6, 6), (9, 3))),
    "sub": ("sub([1 2 3], [4 5 6])", (2, 1, 0), ((3, 3), (6, 6), (9, 3))),
    "mul": ("mul([1 2 3], [4 5 6])", (1, 2, 0), ((3, 3), (6, 6), (9, 3))),
    "dot": ("dot([1 2 3], [4 5 6])", (1, 2, 0), ((3, 3), (6, 6), (10, 1))),
    "cat": ("cat([1], [2 3], [4 5 6], [7 8 9 10])", (4, 1, 3, 2, 0), ((4, 4), (5, 5), (8, 8), (10, 10), (20, 10))),
    "outer": ("outer([1 2], [3 4 5])", (2, 1, 0), ((3, 3), (5, 5), (11, 6))),
    "blend": ("blend([1 2], [3 4 5 6 7])", (1, 2, 0), ((2, 2), (7, 7), (15, 6))),
    "part": ("part 1 3([1 2 3 4 5])", (1, 0), ((5, 5), (7, 2))),
    "rep": ("rep 4([1 2 3])", (1, 0), ((3, 3), (15, 12))),
    "hold": ("hold 30([1 2 3])", (1, 0), ((3, 3), (36, 3))),
}


class HeightsTest(SizedCase):

    def test_the_example(self):
        program = read("rep 2(rep 2([1]))")
        self.assertEqual(((1, 1), (3, 2), (6, 4)), heights(program, (2, 1, 0)))
        self.assertEqual(6, peak(program, (2, 1, 0)))

    def test_each_op_with_its_room(self):
        self.assertEqual(set(OPS), set(ONE_OF_EACH))
        for text, order, expected in ONE_OF_EACH.values():
            self.assertEqual(expected, heights(read(text), order), text)
            self.assertEqual(max(expected)[0], peak(read(text), order), text)

    def test_a_program_of_one_joint(self):
        self.assertEqual(((1, 1),), heights(row(1000002), (0,)))
        self.assertEqual(1, peak(row(1000002), (0,)))

    def test_the_peak_may_stand_at_any_step(self):
        program = read("cat(sum(hold 20([1 2])), rev([3]), top(hold 9([4 5 6])))")
        # Sizes by number: 3, 1, 2, 2, 1, 1, 1, 3, 3.
        order = (3, 2, 1, 5, 4, 8, 7, 6, 0)
        self.assertEqual(((2, 2), (24, 2), (3, 1), (2, 2), (3, 2), (5, 5), (17, 5), (6, 3), (6, 3)),
                         heights(program, order))
        self.assertEqual(24, peak(program, order))
        order = (8, 3, 5, 4, 2, 7, 6, 1, 0)
        self.assertEqual(((3, 3), (5, 5), (6, 6), (7, 6), (28, 6), (18, 6), (7, 4), (5, 3), (6, 3)),
                         heights(program, order))
        self.assertEqual(28, peak(program, order))

    def test_a_chain_and_a_bush_of_forty_joints(self):
        order = tuple(range(40))[::-1]
        self.assertEqual(((2, 2),) + ((4, 2),) * 39, heights(chain(40), order))
        self.assertEqual(4, peak(chain(40), order))
        self.assertEqual(heights_by_word(bush(40), order), heights(bush(40), order))

    def test_kinds_and_names_of_arguments(self):
        found = heights(program=TREE, order=(2, 3, 1, 6, 5, 4, 0))
        self.assertEqual(((1, 1), (2, 2), (4, 2), (3, 3), (4, 3), (4, 3), (6, 3)), found)
        self.assertEqual({tuple}, {found.__class__} | {pair.__class__ for pair in found})
        self.assertEqual(6, peak(program=TREE, order=(2, 3, 1, 6, 5, 4, 0)))

    def test_many_programs(self):
        dice = random.Random(91)
        for program in sized_programs(92, 200, 40):
            order = random_order(dice, program, dice.random() < 0.7)
            expected = heights_by_word(program, order)
            self.assertEqual(expected, heights(program, order))
            self.assertEqual(max(needed for needed, _ in expected), peak(program, order))

    def test_refusals(self):
        self.assert_orders_refused(heights)
        self.assert_orders_refused(peak)


if __name__ == "__main__":
    unittest.main()
