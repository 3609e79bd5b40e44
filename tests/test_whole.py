"""[0.3] over the whole program, each example of the document, and all arguments by their names."""

import random
import unittest

from hillrooms.book import Book
from hillrooms.branches import best_branch_order, best_branch_peak
from hillrooms.codetext import code_of, code_text
from hillrooms.company import together
from hillrooms.compiler import compiled
from hillrooms.errors import BadCell, BadOp, BadParts, BadText
from hillrooms.follow import follows
from hillrooms.heights import heights, peak
from hillrooms.hills import hills
from hillrooms.joints import above, joints, names
from hillrooms.layings import laying_right
from hillrooms.least import least_peak, row_of
from hillrooms.leastorders import least_order
from hillrooms.machine import code_right, run
from hillrooms.orders import branchwise, first_order, is_order
from hillrooms.papers import paper, paper_right
from hillrooms.papertext import paper_of, paper_text
from hillrooms.plainly import plain
from hillrooms.pools import pool_heap, pools
from hillrooms.printer import told_text
from hillrooms.programs import is_program, made_program
from hillrooms.reader import read
from hillrooms.rooms import rooms
from hillrooms.sizes import sizes
from hillrooms.slides import slid
from hillrooms.stacks import stacked
from hillrooms.weave import weave
from tests.inputs import drawn_inputs
from tests.runs import all_orders, pairs, random_order
from tests.samples import HOLDS
from tests.trees import Case, bush, chain, count, sized_programs

LARGEST = [HOLDS, bush(40), chain(40)]


class WhatHoldsTest(Case):

    def test_no_order_has_a_lesser_peak_than_the_least(self):
        dice = random.Random(311)
        for program in sized_programs(312, 100, 40) + LARGEST:
            least = least_peak(program)
            self.assertIs(True, is_order(program, least_order(program)))
            self.assertEqual(least, peak(program, least_order(program)))
            for _ in range(5):
                self.assertLessEqual(least, peak(program, random_order(dice, program, True)))
        for program in sized_programs(313, 80, 7):
            self.assertEqual(least_peak(program), min(peak(program, order) for order in all_orders(program)))

    def test_papers_are_right_and_nothing_less_is_on_a_right_one(self):
        dice = random.Random(314)
        for program in sized_programs(315, 100, 40) + LARGEST:
            number, order, rows = paper(program)
            self.assertIs(True, paper_right(program, number, order, rows))
            self.assertEqual(least_peak(program), number)
            other = random_order(dice, program, True)
            self.assertIs(peak(program, other) == number, paper_right(program, peak(program, other), other, rows))
            self.assertIs(False, paper_right(program, number - 1, order, rows))

    def test_branchwise_orders(self):
        dice = random.Random(316)
        for program in sized_programs(317, 100, 40) + LARGEST:
            best = best_branch_peak(program)
            self.assertLessEqual(least_peak(program), best)
            self.assertIs(True, branchwise(program, best_branch_order(program)))
            self.assertEqual(best, peak(program, best_branch_order(program)))
            for _ in range(5):
                self.assertLessEqual(best, peak(program, random_order(dice, program, False)))

    def test_compiled_code(self):
        dice = random.Random(318)
        for program in sized_programs(319, 80, 40) + LARGEST:
            for way in ("slid", "stacked", "pools"):
                order = dice.choice((best_branch_order, first_order))(program) if way == "stacked" else \
                    dice.choice((least_order(program), random_order(dice, program, True)))
                self.assert_runs(program, order, way, drawn_inputs(dice, program))

    def assert_runs(self, program, order, way, inputs):
        heap, code = compiled(program, order, way)
        value, held, highest, _ = run(heap, code, inputs)
        self.assertEqual(plain(program, inputs), value)
        self.assertEqual((peak(program, order), heap), (max(held), highest))
        self.assertIs(True, code_right(program, heap, code, inputs))
        self.assertIs(False, code_right(program, heap - 1, code, inputs))

    def test_texts_are_read_back_as_they_were_written(self):
        dice = random.Random(320)
        for program in sized_programs(321, 100, 40) + LARGEST:
            self.assertEqual(program, read(told_text(program)))
            self.assertEqual(paper(program), paper_of(paper_text(paper(program))))
            for way in ("slid", "stacked", "pools"):
                _, code = compiled(program, random_order(dice, program, False), way)
                self.assertEqual(code, code_of(code_text(code)))

    def test_a_book_a_company_of_one_and_a_paper_tell_the_same(self):
        for program in sized_programs(322, 60, 40) + LARGEST:
            book = Book(program)
            number, order, rows = paper(program)
            self.assertEqual((number, order), (book.peak(), book.order()))
            self.assertEqual(rows, tuple(book.row(joint) for joint in range(count(program))))
            self.assertEqual((number, tuple((0, joint) for joint in order)), together((program,)))


class ExamplesTest(Case):
    """The examples of the document, by the numbers of its points."""

    def test_4(self):
        for error, what, text in ((BadText, 8, "add([1],)"), (BadText, 5, "ad([1)"), (BadText, 4, "cat()"),
                                  (BadText, 1, "[]"), (BadText, 2, "[00]"), (BadOp, 0, "ad([1])"),
                                  (BadParts, 0, "add([1])"), (BadOp, 0, "in xs")):
            self.assert_refused(error, what, read, text)

    def test_5(self):
        program = ("cat", (), (("part", (0, 2), (("in", ("xs", 4), ()),)), ("row", (5, 7), ())))
        self.assertEqual("cat(part 0 2(in xs 4), [5 7])", told_text(program))

    def test_9(self):
        self.assertEqual(((1, 1), (3, 2), (6, 4)), heights(read("rep 2(rep 2([1]))"), (2, 1, 0)))

    def test_10(self):
        self.assertEqual(((3, 2, (5, 6, 7)),), hills(((3, 1, (5,)), (3, 2, (6,)), (2, 2, (7,)))))

    def test_11(self):
        self.assertIs(True, follows(((3, 2),), ((9, 1), (5, 3))))
        self.assertIs(True, follows(((2, 1),), ((9, 3),)))
        self.assertIs(False, follows(((9, 3),), ((2, 1),)))

    def test_12(self):
        self.assertEqual(((36, 1, (0,)), (35, 2, (2,)), (19, 7, (1,)), (23, 11, (3,))),
                         weave((((36, 1, (0,)), (18, 6, (1,))), ((34, 1, (2,)), (17, 5, (3,))))))

    def test_13(self):
        program = read("add(sum(hold 9([1])), [2])")
        self.assertEqual(((11, 1, (3, 2, 1)),), row_of(program, 1))
        self.assertEqual(((11, 1, (3, 2, 1, 4, 0)),), row_of(program, 0))
        self.assertEqual(((36, 1), (18, 6)), pairs(row_of(HOLDS, 1)))
        self.assertEqual(((34, 1), (17, 5)), pairs(row_of(HOLDS, 7)))
        self.assertEqual(((36, 1), (35, 2), (23, 11)), pairs(row_of(HOLDS, 0)))
        self.assertEqual((6, 5, 4, 3, 12, 11, 10, 9, 2, 1, 8, 7, 0), least_order(HOLDS))

    def test_14_and_15(self):
        self.assertEqual((9, (1, 0), (((9, 3),), ((3, 3),))), paper(read("sort([3 1 2])")))
        self.assertEqual(40, best_branch_peak(HOLDS))

    def test_17_to_19(self):
        self.assertEqual(((2, 0, 0, ()), (1, 1, 0, ()), (0, 2, 0, ((1, 0),))),
                         slid(read("rep 2(rep 2([1]))"), (2, 1, 0)))
        program = read("rev(sort(in a 4))")
        self.assertEqual(((2, 0, 0, ()), (1, 8, 4, ()), (0, 0, 0, ())), stacked(program, (2, 1, 0)))
        self.assertEqual(((2, 0, 0, ()), (1, 4, 8, ()), (0, 0, 0, ())), pools(program, (2, 1, 0)))
        self.assertEqual(12, pool_heap(program, (2, 1, 0)))

    def test_23_and_24(self):
        heap, code = compiled(read("rep 2(rep 2([1]))"), (2, 1, 0), "slid")
        self.assertEqual((6, (("row", 0, (1,)), ("do", "rep", (2,), ((0, 1),), 1, 0, 0), ("move", 1, 0, 2),
                              ("do", "rep", (2,), ((0, 2),), 2, 0, 0), ("out", 2, 4))), (heap, code))
        self.assertEqual(((1, 1, 1, 1), (1, 3, 2, 6, 4), 6, 2), run(heap, code, ()))
        code = (("row", 0, (7,)), ("do", "top", (), ((1, 1),), 0, 0, 0), ("out", 0, 1))
        self.assert_refused(BadCell, (1, 0), run, 6, code, ())

    def test_26_and_28(self):
        self.assertEqual((2, ((0, 0), (1, 0))), together((read("[1]"), read("[2]"))))
        book = Book(read("add([1], [2])"))
        book.put(1, read("sum([5])"))
        self.assertEqual((3, ((1, 1),), (2, 1, 3, 0)), (book.looks(), book.row(3), book.order()))

    def test_29(self):
        for text in ("do part 1 3 : 0,3 : 3 0 0", "do sort : 0,3 : 3 6 3"):
            self.assertEqual(text, code_text(code_of(text)))


class NamesOfArgumentsTest(Case):
    """Each function of the interface, its arguments by the names that it lists."""

    def test_programs_and_texts(self):
        program = read(text="rev(sort(in a 4))")
        self.assertEqual(("rev", (), (("sort", (), (("in", ("a", 4), ()),)),)), program)
        self.assertEqual(program, made_program(thing=program))
        self.assertIs(True, is_program(thing=program))
        self.assertEqual(3, len(joints(program=program)))
        self.assertEqual((-1, 0, 1), above(program=program))
        self.assertEqual((("a", 4),), names(program=program))
        self.assertEqual("rev(sort(in a 4))", told_text(program=program))
        self.assertEqual((4, 4, 4), sizes(program=program))
        self.assertEqual((0, 4, 0), rooms(program=program))
        self.assertEqual((9, 8, 2, 1), plain(program=program, inputs=(("a", (1, 9, 2, 8)),)))

    def test_orders_rows_and_papers(self):
        program, order = read("rev(sort(in a 4))"), (2, 1, 0)
        self.assertIs(True, is_order(program=program, order=order))
        self.assertEqual(order, first_order(program=program))
        self.assertIs(True, branchwise(program=program, order=order))
        self.assertEqual(((4, 4), (12, 4), (8, 4)), heights(program=program, order=order))
        self.assertEqual(12, peak(program=program, order=order))
        row = ((12, 4, (2, 1, 0)),)
        self.assertEqual(row, hills(run=((4, 4, (2,)), (12, 4, (1,)), (8, 4, (0,)))))
        self.assertIs(True, follows(one=row, two=row))
        self.assertEqual(row, weave(rows=(row,)))
        self.assertEqual(row, row_of(program=program, joint=0))
        self.assertEqual(12, least_peak(program=program))
        self.assertEqual(order, least_order(program=program))
        found = paper(program=program)
        self.assertEqual((12, order, (((12, 4),), ((12, 4),), ((4, 4),))), found)
        self.assertIs(True, paper_right(program=program, peak=12, order=order, rows=found[2]))
        self.assertEqual(found, paper_of(text=paper_text(paper=found)))
        self.assertEqual(12, best_branch_peak(program=program))
        self.assertEqual(order, best_branch_order(program=program))

    def test_layings_and_code(self):
        program, order = read("rev(sort(in a 4))"), (2, 1, 0)
        for laying in (slid(program=program, order=order), stacked(program=program, order=order),
                       pools(program=program, order=order)):
            self.assertIs(True, laying_right(program=program, order=order, heap=12, laying=laying))
        self.assertEqual(12, pool_heap(program=program, order=order))
        heap, code = compiled(program=program, order=order, way="pools")
        inputs = (("a", (1, 9, 2, 8)),)
        self.assertEqual(((9, 8, 2, 1), (4, 12, 8, 4), 12, 0), run(heap=heap, code=code, inputs=inputs))
        self.assertIs(True, code_right(program=program, heap=heap, code=code, inputs=inputs))
        self.assertEqual(code, code_of(text=code_text(code=code)))

    def test_companies_and_books(self):
        program = read("rev(sort(in a 4))")
        self.assertEqual((12, ((0, 2), (0, 1), (0, 0))), together(programs=(program,)))
        book = Book(program=program)
        self.assertIsNone(book.put(joint=2, program=read("[3 1]")))
        self.assertIsNone(book.told(joint=2, told=(3, 1, 2)))
        self.assertEqual(((9, 3),), book.row(joint=1))
        self.assertEqual(read("rev(sort([3 1 2]))"), book.program())


if __name__ == "__main__":
    unittest.main()
