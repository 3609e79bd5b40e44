"""[22] and [25]: rows of form, and the errors of runs in their order."""

import unittest

from hillrooms.errors import BadCell, BadCode, BadHeap, BadInput
from hillrooms.machine import run
from tests.coderows import DOES, RIGHT_ROWS, right_do, wrong_rows
from tests.machines import outcome
from tests.trees import Case, deep

OUT = ("out", 0, 1)
FIRST = ("row", 0, (7,))


class RowsOfFormTest(Case):

    def test_rows_of_form(self):
        for row in RIGHT_ROWS + tuple(right_do(op) for op in DOES):
            if row[0] != "out":
                # What is refused is that the code does not end with an out.
                self.assertEqual((BadCode, 1), outcome(5, (row,), ()), row)
                self.assertEqual((BadCode, 3), outcome(5, (row, row, row), ()), row)
                code = (row, OUT)
            else:
                code = (row,)
            # Done in a heap of no cells, each fails for its own cells, or its input.
            self.assertIn(outcome(0, code, ())[0], (BadCell, BadInput), row)

    def test_rows_that_are_not(self):
        for row in wrong_rows():
            self.assertEqual((BadCode, 0), outcome(9, (row, OUT), ()), row)
            self.assertEqual((BadCode, 1), outcome(9, (FIRST, row), ()), row)
            self.assertEqual((BadCode, 2), outcome(9, (FIRST, FIRST, row, FIRST, OUT), ()), row)

    def test_the_first_of_several(self):
        self.assert_refused(BadCode, 1, run, 9, (FIRST, None, ("out", 0, 0), 7, OUT), ())
        self.assert_refused(BadCode, 2, run, 9, (FIRST, FIRST, ("out", 0, 0), None), ())

    def test_numbers_that_are_texts(self):
        for row in (("row", "0", (7,)), ("row", 0, ("7",)), ("out", "0", "1"),
                    ("do", "rev", (), (("0", "1"),), 1, 0, 0)):
            self.assert_refused(BadCode, 0, run, 9, (row, OUT), ())


class OutsTest(Case):

    def test_an_out_that_is_not_the_last_row(self):
        self.assert_refused(BadCode, 0, run, 9, (OUT, OUT), ())
        self.assert_refused(BadCode, 1, run, 9, (FIRST, OUT, FIRST, OUT), ())
        self.assert_refused(BadCode, 1, run, 9, (FIRST, OUT, FIRST), ())
        self.assert_refused(BadCode, 1, run, 9, (FIRST, OUT, None), ())
        self.assert_refused(BadCode, 1, run, 9, (FIRST, None, OUT, OUT), ())

    def test_a_code_that_ends_otherwise(self):
        self.assert_refused(BadCode, 0, run, 9, (), ())
        self.assert_refused(BadCode, 1, run, 9, (FIRST,), ())
        self.assert_refused(BadCode, 2, run, 9, (FIRST, ("move", 0, 1, 1)), ())
        self.assert_refused(BadCode, 2, run, 9, (FIRST, ("do", "rev", (), ((0, 1),), 1, 0, 0)), ())
        self.assert_refused(BadCode, 1, run, 9, (("in", 0, "xs", 1),), (("xs", (1,)),))


class HeapsTest(Case):

    def test_heaps_that_may_be(self):
        for heap in (1, 2, 9999, 10000):
            self.assertEqual(((7,), (1, 1), 1, 0), run(heap, (FIRST, OUT), ()))
        self.assert_refused(BadCell, (0, 0), run, 0, (FIRST, OUT), ())

    def test_heaps_that_may_not(self):
        for heap in (-1, -10000, 10001, 10 ** 30, -(10 ** 30)):
            self.assert_refused(BadHeap, heap, run, heap, (FIRST, OUT), ())
        for heap in (None, "", "9", (), (9,), deep(90)):
            self.assert_refused(BadHeap, heap, run, heap, (FIRST, OUT), ())


class OrderOfErrorsTest(Case):

    def test_a_bad_heap_comes_first(self):
        for code in ((), (None,), (OUT, OUT), (FIRST,), (FIRST, FIRST, OUT), (("in", 0, "xs", 1), OUT)):
            for heap in (-1, 10001):
                self.assert_refused(BadHeap, heap, run, heap, code, ())

    def test_a_row_that_is_not_of_form_comes_ahead_of_a_missing_out(self):
        self.assert_refused(BadCode, 0, run, 9, (None, FIRST), ())
        self.assert_refused(BadCode, 1, run, 9, (FIRST, ("out", 0, 65)), ())
        self.assert_refused(BadCode, 0, run, 9, (OUT, FIRST), ())

    def test_all_of_these_come_ahead_of_what_rows_do(self):
        wrong = (FIRST, FIRST, ("in", 5, "xs", 1))
        self.assert_refused(BadCell, (1, 0), run, 9, wrong + (OUT,), ())
        self.assert_refused(BadCode, 3, run, 9, wrong + (None, OUT), ())
        self.assert_refused(BadCode, 3, run, 9, wrong, ())
        self.assert_refused(BadCode, 3, run, 9, wrong + (OUT, OUT), ())
        self.assert_refused(BadInput, "xs", run, 9, wrong[1:] + (OUT,), ())
        self.assert_refused(BadCode, 2, run, 9, wrong[1:], ())
        self.assert_refused(BadCode, 2, run, 9, wrong[1:] + (("move", 0, 0, 0), OUT), ())

    def test_what_rows_do_comes_ahead_of_cells_left_behind(self):
        self.assert_refused(BadCell, (2, 8), run, 9, (FIRST, ("row", 1, (1,)), ("out", 8, 1)), ())
        self.assert_refused(BadInput, "xs", run, 9, (FIRST, ("in", 1, "xs", 1), OUT), ())
        self.assert_refused(BadCode, 3, run, 9, (FIRST, ("row", 1, (1,)), OUT), ())


if __name__ == "__main__":
    unittest.main()
