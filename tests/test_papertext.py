"""[30]: texts of papers."""

import random
import unittest

from hillrooms.errors import BadText
from hillrooms.papers import paper, paper_right
from hillrooms.papertext import paper_of, paper_text
from hillrooms.reader import read
from tests.samples import HOLDS, TREE
from tests.trees import Case, bush, chain, row, sized_programs

SORT_TEXT = "peak 9\norder 1 0\n9:3\n3:3"
SORT_PAPER = (9, (1, 0), (((9, 3),), ((3, 3),)))
LINES = ("peak 36", "order 2 1 0", "36:1 35:2 23:11", "7:6 6:6", "0:9999999")

NO_NUMBERS = ("", "00", "01", "00000000", "12345678", "00000001", "-1", "+1", "1.0", "1_0", "x", "\u0661", "\u00b2",
              "None", "1,", "0x1", ":", "1\r", "\t1")
NO_PAIRS = ("", ":", "1", "1:", ":1", "1:2:3", "1,2", "1::2", "1: 2", "1 :2", "(1:2)", "1;2", "1:2,") + tuple(
    [word + ":1" for word in NO_NUMBERS] + ["1:" + word for word in NO_NUMBERS])


def text_of(lines):
    return "\n".join(lines)


def with_line(index, line):
    return text_of(LINES[:index] + (line,) + LINES[index + 1:])


class PaperTextTest(Case):

    def test_small_papers(self):
        self.assertEqual(SORT_TEXT, paper_text(SORT_PAPER))
        self.assertEqual("peak 3\norder 0\n3:3", paper_text(paper(row(7, 8, 9))))
        self.assertEqual(SORT_TEXT, paper_text(paper=paper(read("sort([3 1 2])"))))

    def test_a_larger_paper(self):
        lines = paper_text(paper(HOLDS)).split("\n")
        self.assertEqual(["peak 36", "order 6 5 4 3 12 11 10 9 2 1 8 7 0", "36:1 35:2 23:11", "36:1 18:6", "36:1 7:6",
                          "36:1", "36:8", "9:8", "1:1", "34:1 17:5", "34:1 6:5", "34:1", "34:9", "10:9", "1:1"], lines)

    def test_papers_that_are_not_right_are_written_too(self):
        self.assertEqual("peak 0\norder 5 5\n1:9\n0:0 0:0", paper_text((0, (5, 5), (((1, 9),), ((0, 0), (0, 0))))))


class PaperOfTest(Case):

    def check_bad(self, index, text):
        self.assert_refused(BadText, index, paper_of, text)

    def test_small_papers(self):
        self.assertEqual(SORT_PAPER, paper_of(SORT_TEXT))
        self.assertEqual(SORT_PAPER, paper_of(text=SORT_TEXT))
        self.assertEqual((3, (0,), (((3, 3),),)), paper_of("peak 3\norder 0\n3:3"))
        self.assertEqual((36, (2, 1, 0), (((36, 1), (35, 2), (23, 11)), ((7, 6), (6, 6)), ((0, 9999999),))),
                         paper_of(text_of(LINES)))

    def test_kinds(self):
        found = paper_of(text_of(LINES))
        self.assertEqual([tuple, int, tuple, tuple], [thing.__class__ for thing in (found,) + found])
        self.assertEqual({tuple}, {row.__class__ for row in found[2]})
        self.assertEqual({tuple}, {pair.__class__ for row in found[2] for pair in row})

    def test_there_and_back(self):
        for program in sized_programs(301, 150, 40) + [HOLDS, TREE, bush(40), chain(40)]:
            found = paper(program)
            self.assertEqual(found, paper_of(paper_text(found)))
            self.assertIs(True, paper_right(program, *paper_of(paper_text(found))))

    def test_papers_that_are_not_right(self):
        for text in ("peak 0\norder 7\n0:5", "peak 9999999\norder 9999999 0 0\n0:0\n1:2\n3:4 1:2 9:9",
                     "peak 1\norder 3 3\n1:1\n1:1"):
            self.assertEqual(text, paper_text(paper_of(text)))
        self.assertEqual((0, (7,), (((0, 5),),)), paper_of("peak 0\norder 7\n0:5"))

    def test_any_number_of_joints(self):
        many = 500
        text = "peak 1\norder " + " ".join("0" for _ in range(many)) + "\n1:1" * many
        self.assertEqual((1, (0,) * many, (((1, 1),),) * many), paper_of(text))
        self.assertEqual(text, paper_text(paper_of(text)))
        self.check_bad(many + 2, text + "\n1:1")
        self.check_bad(many + 1, text[:-4])

    def test_the_empty_text(self):
        self.check_bad(0, "")

    def test_missing_rows(self):
        for many in range(1, 5):
            self.check_bad(many, text_of(LINES[:many]))

    def test_rows_too_many(self):
        for line in ("1:1", "", "x", "peak 36"):
            self.check_bad(5, text_of(LINES + (line,)))
            self.check_bad(5, text_of(LINES + (line, line)))
        self.check_bad(3, "peak 3\norder 0\n3:3\n3:3")
        self.check_bad(3, "peak 3\norder 0\n3:3\n")

    def test_empty_rows(self):
        for index in range(5):
            self.check_bad(index, with_line(index, ""))
            self.check_bad(index, with_line(index, " "))
            self.check_bad(index, text_of(LINES[:index] + ("",) + LINES[index:]))

    def test_the_peak(self):
        for line in ("peak", "peak ", "36", "Peak 36", "peak 36 ", " peak 36", "peak  36", "peak 36 36", "peak36",
                     "peak 36:1", "order 36", "peak\t36") + tuple("peak " + word for word in NO_NUMBERS):
            self.check_bad(0, with_line(0, line))
            self.check_bad(0, line)
        self.assertEqual(9999999, paper_of(with_line(0, "peak 9999999"))[0])
        self.assertEqual(0, paper_of(with_line(0, "peak 0"))[0])

    def test_the_order(self):
        for line in ("order", "order ", "2 1 0", "Order 2 1 0", "orders 2 1 0", "order 2 1 0 ", " order 2 1 0",
                     "order  2 1 0", "order 2  1 0", "order 2,1,0", "peak 2 1 0", "order2 1 0"):
            self.check_bad(1, with_line(1, line))
            self.check_bad(1, "peak 36\n" + line)
        for word in NO_NUMBERS:
            for line in (f"order {word} 1 0", f"order 2 {word} 0", f"order 2 1 {word}"):
                self.check_bad(1, with_line(1, line))

    def test_the_rows_of_the_joints(self):
        for index in (2, 3, 4):
            for line in ("1:1 ", " 1:1", "1:1  2:2", "1:1,2:2", "1:1\t2:2", "order 1:1", "x"):
                self.check_bad(index, with_line(index, line))
            for word in NO_PAIRS:
                for line in (word, word + " 1:1", "1:1 " + word, "1:1 " + word + " 1:1"):
                    self.check_bad(index, with_line(index, line))

    def test_the_first_bad_row_counts(self):
        for first in range(5):
            for second in range(first, 5):
                lines = list(LINES)
                lines[first] = lines[second] = "bad"
                self.check_bad(first, text_of(lines))
                self.check_bad(first, text_of(lines + ["1:1"]))
                self.check_bad(first, text_of(lines[:first + 1]))

    def test_line_feeds(self):
        self.check_bad(4, SORT_TEXT + "\n")
        self.check_bad(0, "\n" + SORT_TEXT)
        self.check_bad(0, SORT_TEXT.replace("\n", "\r\n"))
        self.check_bad(2, "peak 9\norder 1 0\n\n9:3\n3:3")
        self.check_bad(0, "peak 9 order 1 0\n9:3\n3:3")

    def test_texts_with_one_sign_changed(self):
        # Whatever is read is written as it was read.
        dice = random.Random(302)
        read_again = 0
        for _ in range(20000):
            text = dice.choice((SORT_TEXT, text_of(LINES)))
            at = dice.randrange(len(text) + 1)
            spoilt = text[:at] + dice.choice(" :0123456789\npo") * dice.randrange(2) + text[at + dice.randrange(2):]
            try:
                found = paper_of(spoilt)
            except BadText as refusal:
                self.assertIn(refusal.what, range(spoilt.count("\n") + 2))
            else:
                read_again += 1
                self.assertEqual(spoilt, paper_text(found))
        self.assertGreater(read_again, 1000)


if __name__ == "__main__":
    unittest.main()
