"""[29]: texts of code."""

import random
import unittest

from hillrooms.codetext import code_of, code_text
from hillrooms.compiler import compiled
from hillrooms.errors import BadCode, BadText
from tests.coderows import DOES, RIGHT_ROWS, right_do, wrong_rows
from tests.lays import programs_and_orders
from tests.machines import random_codes
from tests.trees import Case

TEXTS = (
    ("row 0 7", ("row", 0, (7,))),
    ("row 10000 0 1000002 5", ("row", 10000, (0, 1000002, 5))),
    ("in 3 xs 4", ("in", 3, "xs", 4)),
    ("in 10000 abcdefgh 64", ("in", 10000, "abcdefgh", 64)),
    ("in 0 in 1", ("in", 0, "in", 1)),
    ("move 1 0 2", ("move", 1, 0, 2)),
    ("out 2 4", ("out", 2, 4)),
    ("do part 1 3 : 0,3 : 3 0 0", ("do", "part", (1, 3), ((0, 3),), 3, 0, 0)),
    ("do sort : 0,3 : 3 6 3", ("do", "sort", (), ((0, 3),), 3, 6, 3)),
    ("do rep 2 : 0,1 : 1 0 0", ("do", "rep", (2,), ((0, 1),), 1, 0, 0)),
    ("do hold 0 : 10,1 : 1 10000 0", ("do", "hold", (0,), ((10, 1),), 1, 10000, 0)),
    ("do add : 0,2 2,2 : 4 0 0", ("do", "add", (), ((0, 2), (2, 2)), 4, 0, 0)),
    ("do cat : 9,1 8,2 7,3 10000,4 : 40 0 0", ("do", "cat", (), ((9, 1), (8, 2), (7, 3), (10000, 4)), 40, 0, 0)),
)

# Texts that are the text of no row of form.
BAD_ROWS = (
    # None at all.
    "", " ", "x", "row", "in", "do", "move", "out", ":", "0", "out 0 1 :", "OUT 0 1", "outs 0 1", "rev : 0,1 : 1 0 0",
    # Too few or too many words.
    "row 0", "in 0 xs", "in 0", "in xs 3", "in 0 xs 3 4", "move 0 1", "move 0 1 2 3", "out 0", "out 0 1 2",
    # Spaces.
    " out 0 1", "out 0 1 ", "out  0 1", "out 0  1", "out\t0 1", "out 0\u00a01", "row 0 7 ", " row 0 7", "row  0 7",
    "row 0  7", "in 3  xs 4", "in 3 xs 4 ", "move 1 0  2", "move 1 0 2 ", "do sort : 0,3 : 3 6 3 ",
    " do sort : 0,3 : 3 6 3", "do  sort : 0,3 : 3 6 3", "do sort  : 0,3 : 3 6 3", "do sort :  0,3 : 3 6 3",
    "do sort : 0,3  : 3 6 3", "do sort : 0,3 :  3 6 3", "do sort : 0,3 : 3  6 3", "do sort: 0,3 : 3 6 3",
    "do sort :0,3 : 3 6 3", "do sort : 0,3: 3 6 3", "do sort : 0,3 :3 6 3", "do sort : 0, 3 : 3 6 3",
    "do sort : 0 ,3 : 3 6 3", "do sort : 0,3 : 3 6 3\r", "out 0 1\r", "out 0 1\x0b", "do part 1  3 : 0,3 : 3 0 0",
    # Numbers.
    "out 00 1", "out 01 1", "out 0 01", "out 0 00", "row 0 00", "row 0 07", "row 00 7", "row 0 1 02", "out 00000000 1",
    "row 0 10000000", "row 0 00000007", "out 10000000 1", "out 0000001 1", "out +0 1", "out -0 1", "out -1 1",
    "out 0 -1", "out 0.0 1", "out 0x0 1", "out 1_0 1", "out a 1", "out 0 \u0661", "out \u00b2 1", "out \uff10 1",
    "row 0 None", "in 01 xs 3", "in 0 xs 03", "move 00 1 2", "move 0 01 2", "move 0 1 02", "row 0 7,", "row 0 [7]",
    "do sort : 00,3 : 3 6 3", "do sort : 0,03 : 3 6 3", "do sort : 0,3 : 03 6 3", "do sort : 0,3 : 3 06 3",
    "do sort : 0,3 : 3 6 03", "do rep 02 : 0,1 : 1 0 0", "do part 00 3 : 0,3 : 3 0 0", "do rep 00000002 : 0,1 : 1 0 0",
    # Parts and colons.
    "do sort 0,3 : 3 6 3", "do sort : 0,3 3 6 3", "do sort 0,3 3 6 3", "do sort : : 3 6 3", "do sort :: 3 6 3",
    "do sort : 0,3 : 3 6 3 :", "do : sort : 0,3 : 3 6 3", "do : 0,3 : 3 6 3", "do sort : 0,3 : : 3 6 3",
    ": 0,3 : 3 6 3",
    "do sort : 0;3 : 3 6 3", "do sort : 0,3, : 3 6 3", "do sort : ,3 : 3 6 3", "do sort : 0, : 3 6 3",
    "do sort : 0,3,1 : 3 6 3", "do sort : 0 3 : 3 6 3", "do sort : 03 : 3 6 3", "do sort : , : 3 6 3",
    "do add : 0,2,2,2 : 4 0 0", "do add : 0,2, 2,2 : 4 0 0", "do sort : (0,3) : 3 6 3", "do sort : 0:3 : 3 6 3",
    "do sort : 0,3 : 3 6", "do sort : 0,3 : 3 6 3 0", "do sort : 0,3 :", "do sort :", "do sort", "do", "do :", "do : :",
    # Of no form by their numbers and words.
    "row 10001 7", "row 0 1000003", "row 0 9999999", "row 0" + " 1" * 65, "in 10001 xs 3", "in 0 xs 0", "in 0 xs 65",
    "in 0 Xs 3", "in 0 x1 3", "in 0 abcdefghi 3", "in 0 1 3", "in 0 : 3", "in 0  3", "move 10001 0 2", "move 0 10001 2",
    "move 0 1 0", "move 0 1 65", "out 10001 1", "out 0 0", "out 0 65",
    "do row 7 : : 3 0 0", "do row 7 : 0,1 : 3 0 0", "do in xs 3 : : 3 0 0", "do xyz : 0,3 : 3 0 0",
    "do sort 1 : 0,3 : 3 6 3", "do sort : 0,3 : 3 6 0", "do sort : 0,3 : 3 6 2", "do rev : 0,3 : 3 6 3",
    "do rev : 0,3 : 10001 0 0", "do rev : 0,3 : 3 10001 0", "do rev : 10001,3 : 3 0 0", "do rev : 0,0 : 3 0 0",
    "do rev : 0,65 : 3 0 0", "do rev : 0,3 3,3 : 6 0 0", "do add : 0,3 : 3 0 0", "do add : 0,3 3,2 : 6 0 0",
    "do part 1 4 : 0,3 : 3 0 0", "do part 3 1 : 0,3 : 3 0 0", "do part 1 : 0,3 : 3 0 0", "do part : 0,3 : 3 0 0",
    "do rep 0 : 0,3 : 3 0 0", "do rep 17 : 0,3 : 3 0 0", "do rep xs : 0,3 : 3 0 0", "do rep 2 : 0,33 : 33 0 0",
    "do hold 65 : 0,3 : 3 0 65", "do hold 5 : 0,3 : 3 6 4", "do cat : 0,1 1,1 2,1 3,1 4,1 : 5 0 0",
    "do cat : 0,60 60,5 : 65 0 0", "do outer : 0,9 9,8 : 65 0 0",
)


class CodeTextTest(Case):

    def test_each_kind_of_row(self):
        for text, row in TEXTS:
            self.assertEqual(text, code_text((row,)))

    def test_rows_are_separated_by_single_line_feeds(self):
        self.assertEqual("row 0 1\ndo rep 2 : 0,1 : 1 0 0\nmove 1 0 2\ndo rep 2 : 0,2 : 2 0 0\nout 2 4",
                         code_text((("row", 0, (1,)), ("do", "rep", (2,), ((0, 1),), 1, 0, 0), ("move", 1, 0, 2),
                                    ("do", "rep", (2,), ((0, 2),), 2, 0, 0), ("out", 2, 4))))
        self.assertEqual("\n".join(text for text, _ in TEXTS), code_text(code=tuple(row for _, row in TEXTS)))

    def test_an_out_anywhere_or_nowhere(self):
        self.assertEqual("out 0 1\nout 0 1\nrow 0 1", code_text((("out", 0, 1), ("out", 0, 1), ("row", 0, (1,)))))
        self.assertEqual("row 0 1", code_text((("row", 0, (1,)),)))

    def test_no_rows(self):
        self.assert_refused(BadCode, 0, code_text, ())

    def test_rows_that_are_not_of_form(self):
        right = ("row", 0, (1,))
        for row in wrong_rows():
            self.assert_refused(BadCode, 0, code_text, (row,))
            self.assert_refused(BadCode, 0, code_text, (row, row, right))
            self.assert_refused(BadCode, 1, code_text, (right, row))
            self.assert_refused(BadCode, 2, code_text, (right, ("out", 0, 1), row, right, None))


class CodeOfTest(Case):

    def test_each_kind_of_row(self):
        for text, row in TEXTS:
            self.assertEqual((row,), code_of(text))
        self.assertEqual(tuple(row for _, row in TEXTS), code_of(text="\n".join(text for text, _ in TEXTS)))

    def test_kinds(self):
        for row in code_of("\n".join(text for text, _ in TEXTS)):
            self.assertIs(tuple, row.__class__)
            if row[0] == "do":
                self.assertEqual({tuple}, {thing.__class__ for thing in row[2:4] + row[3]})
            if row[0] == "row":
                self.assertIs(tuple, row[2].__class__)

    def test_there_and_back(self):
        for row in RIGHT_ROWS + tuple(right_do(op) for op in DOES):
            self.assertEqual((row,), code_of(code_text((row,))))
        everything = RIGHT_ROWS + tuple(right_do(op) for op in DOES)
        self.assertEqual(everything, code_of(code_text(everything)))
        for code in random_codes(291, 300):
            self.assertEqual(code, code_of(code_text(code)))
        for program, order in programs_and_orders(292, 60):
            for way in ("slid", "pools"):
                _, code = compiled(program, order, way)
                self.assertEqual(code, code_of(code_text(code)))

    def test_an_out_anywhere_or_nowhere(self):
        self.assertEqual((("out", 0, 1), ("row", 0, (1,)), ("out", 5, 6)), code_of("out 0 1\nrow 0 1\nout 5 6"))
        self.assertEqual((("move", 0, 0, 1),), code_of("move 0 0 1"))

    def test_the_empty_text(self):
        self.assert_refused(BadText, 0, code_of, "")

    def test_bad_rows_at_the_first_a_middle_and_the_last_row(self):
        for bad in BAD_ROWS:
            self.assert_refused(BadText, 0, code_of, bad)
            self.assert_refused(BadText, 0, code_of, bad + "\nout 0 1\nout 0 1")
            self.assert_refused(BadText, 1, code_of, "row 0 1\n" + bad + "\nout 0 1")
            self.assert_refused(BadText, 2, code_of, "row 0 1\nout 0 1\n" + bad)
            self.assert_refused(BadText, 1, code_of, "row 0 1\n" + bad + "\n" + bad + "\nx")

    def test_line_feeds(self):
        for text, index in (("out 0 1\n", 1), ("\nout 0 1", 0), ("out 0 1\n\nout 0 1", 1), ("\n", 0), ("\n\n", 0),
                            ("out 0 1\r\nout 0 1", 0), ("out\n0 1", 0), ("out 0 1\rout 0 1", 0),
                            ("out 0 1\u2028out 0 1", 0), ("out 0 1\x0cout 0 1", 0)):
            self.assert_refused(BadText, index, code_of, text)

    def test_texts_with_one_sign_changed(self):
        # Whatever is read is written as it was read.
        dice = random.Random(293)
        read = 0
        for _ in range(20000):
            text = dice.choice(TEXTS)[0]
            at = dice.randrange(len(text) + 1)
            sign = dice.choice(" :,0123456789\nxsrow")
            spoilt = text[:at] + sign * dice.randrange(2) + text[at + dice.randrange(2):]
            try:
                code = code_of(spoilt)
            except BadText as refusal:
                self.assertIn(refusal.what, range(spoilt.count("\n") + 1))
            else:
                read += 1
                self.assertEqual(spoilt, code_text(code))
        self.assertGreater(read, 1000)


if __name__ == "__main__":
    unittest.main()
