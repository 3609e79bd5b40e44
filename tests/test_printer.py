"""[5] and (d) of [0.3]: programs written as texts, from which read leads back."""

import re
import unittest

from hillrooms.errors import BadOp, BadParts, BadProgram, TooMany
from hillrooms.printer import told_text
from hillrooms.reader import read
from tests.trees import Case, bush, chain, count, given, numbered, on, over, random_programs, row


class PrinterTest(Case):

    def test_the_example_of_the_document(self):
        program = ("cat", (), (("part", (0, 2), (("in", ("xs", 4), ()),)), ("row", (5, 7), ())))
        self.assertEqual("cat(part 0 2(in xs 4), [5 7])", told_text(program))
        self.assertEqual("cat(part 0 2(in xs 4), [5 7])", told_text(program=program))

    def test_every_op(self):
        one, two = row(1, 20), given("y", 2)
        for text, program in (
            ("[0]", row(0)),
            ("[1 20]", one),
            ("[1000002 0 7]", row(1000002, 0, 7)),
            ("in y 2", two),
            ("in abcdefgh 64", given("abcdefgh", 64)),
            ("in row 1", given("row", 1)),
            ("rev([1 20])", on("rev", one)),
            ("sort(in y 2)", on("sort", two)),
            ("sum([1 20])", on("sum", one)),
            ("top(in y 2)", on("top", two)),
            ("add([1 20], in y 2)", on("add", one, two)),
            ("sub(in y 2, [1 20])", on("sub", two, one)),
            ("mul([1 20], [1 20])", on("mul", one, one)),
            ("dot([1 20], in y 2)", on("dot", one, two)),
            ("cat([1 20])", on("cat", one)),
            ("cat([1 20], in y 2, [3], in y 2)", on("cat", one, two, row(3), two)),
            ("outer([1 20], in y 2)", on("outer", one, two)),
            ("blend(in y 2, [1 20])", on("blend", two, one)),
            ("part 0 64([1 20])", on("part", one, told=(0, 64))),
            ("rep 16(in y 2)", on("rep", two, told=(16,))),
            ("hold 0([1 20])", on("hold", one, told=(0,))),
            ("hold 64(hold 5(rev(in y 2)))",
             on("hold", on("hold", on("rev", two), told=(5,)), told=(64,))),
        ):
            self.assertEqual(text, told_text(program))
            self.assertEqual(program, read(text))

    def test_read_leads_back(self):
        for program in random_programs(31, 300, 40) + [chain(40), bush(40)]:
            text = told_text(program)
            self.assertIs(str, text.__class__)
            self.assertEqual(program, read(text))

    def test_blanks_are_put_right(self):
        for text, right in (
            ("\n [ 5\n7 ]\n", "[5 7]"),
            ("cat(part  0\n2( in xs 4 ) ,[5 7])", "cat(part 0 2(in xs 4), [5 7])"),
            ("add ( [1],[2] )", "add([1], [2])"),
            ("rep 3 ([1])", "rep 3([1])"),
            ("in\n\nxs   4 ", "in xs 4"),
        ):
            self.assertEqual(right, told_text(read(text)))

    def test_no_other_blanks(self):
        for program in random_programs(32, 300, 40):
            text = told_text(program)
            self.assertIsNone(re.search(r"\n|  |^ | $|\( | \(| \)|\) | ,|,[^ ]|\[ | \]|[^,a-z0-9] ", text), text)

    def test_the_longest_texts_can_be_read(self):
        widest = row(*[1000002] * 64)
        most = on("cat", *[widest] * 4)
        for _ in range(8):
            most = on("cat", widest, widest, widest, most)
        most = on("cat", most, widest, widest)
        self.assertEqual((40, 30), (count(most), [joint[0] for joint in numbered(most)].count("row")))
        for program in (over(widest, 39), most):
            text = told_text(program)
            self.assertLess(len(text), 24000)
            self.assertEqual(program, read(text))

    def test_sizes_are_not_looked_at(self):
        self.assertEqual("add([1], [1 2])", told_text(on("add", row(1), row(1, 2))))
        self.assertEqual("cat(in a 1, in a 2)", told_text(on("cat", given("a", 1), given("a", 2))))

    def test_refusals(self):
        for error, what, thing in (
            (BadProgram, 0, None),
            (BadProgram, 0, "[5 7]"),
            (BadProgram, 1, on("rev", "[5 7]")),
            (BadOp, 0, ("row", (), ())),
            (BadOp, 1, on("rev", ("in", ("xs", 65), ()))),
            (BadParts, 1, on("rev", on("rev"))),
            (TooMany, 41, chain(41)),
            (TooMany, 41, bush(80)),
        ):
            self.assert_refused(error, what, told_text, thing)


if __name__ == "__main__":
    unittest.main()
