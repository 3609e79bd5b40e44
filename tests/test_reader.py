"""[3] and [4]: the texts of programs, and how they are read."""

import random
import unittest

from hillrooms.errors import BadOp, BadParts, BadText, TooMany
from hillrooms.printer import told_text
from hillrooms.reader import read
from tests.trees import OPS, Case, bush, chain, given, on, over, random_programs, row, whole

EXAMPLE = on("cat", on("part", given("xs", 4), told=(0, 2)), row(5, 7))

DIGITS = "0123456789"
LETTERS = "abcdefghijklmnopqrstuvwxyz"


def first_bad_sign(text):
    """What [4] says of the signs of a text, each looked at for itself: a pair (error, what) or None."""
    place, depth, run = "joint", 0, ""
    for offset, sign in enumerate(text):
        if run and (sign in LETTERS or sign in DIGITS):
            longer = run + sign
            if longer.isalpha() and len(longer) <= 8:
                run = longer
            elif longer.isdigit() and len(longer) <= 7 and run != "0":
                run = longer
            else:
                return (BadText, offset)
            continue
        run = ""
        if sign in " \n":
            continue
        if place == "joint" and sign in LETTERS:
            place, run = "head", sign
        elif place == "joint" and sign == "[":
            place = "first"
        elif place == "head" and sign in LETTERS + DIGITS:
            run = sign
        elif place in ("first", "row") and sign in DIGITS:
            place, run = "row", sign
        elif place == "row" and sign == "]":
            place = "done"
        elif place == "head" and sign == "(":
            place, depth = "joint", depth + 1
            if depth == 41:
                return (TooMany, 41)
        elif place in ("head", "done") and depth and sign == ",":
            place = "joint"
        elif place in ("head", "done") and depth and sign == ")":
            place, depth = "done", depth - 1
        else:
            return (BadText, offset)
    return None if depth == 0 and place in ("head", "done") else (BadText, len(text))


class ExamplesTest(Case):

    def test_the_examples_of_the_document(self):
        for error, what, text in (
            (BadText, 8, "add([1],)"),
            (BadText, 5, "ad([1)"),
            (BadText, 4, "cat()"),
            (BadText, 1, "[]"),
            (BadText, 2, "[00]"),
            (BadOp, 0, "ad([1])"),
            (BadParts, 0, "add([1])"),
            (BadOp, 0, "in xs"),
        ):
            self.assert_refused(error, what, read, text)

    def test_programs(self):
        self.assertEqual(row(0), read("[0]"))
        self.assertEqual(row(1000002, 10, 0), read("[1000002 10 0]"))
        self.assertEqual(given("abcdefgh", 64), read("in abcdefgh 64"))
        self.assertEqual(given("in", 1), read("in in 1"))
        self.assertEqual(given("row", 1), read("in row 1"))
        self.assertEqual(on("part", row(1, 2, 3, 4), told=(1, 3)), read("part 1 3([1 2 3 4])"))
        self.assertEqual(EXAMPLE, read("cat(part 0 2(in xs 4), [5 7])"))
        self.assertEqual(EXAMPLE, read(text="cat(part 0 2(in xs 4), [5 7])"))

    def test_kinds_of_what_is_read(self):
        op, told, parts = read("rep 3(in xs 4)")
        self.assertEqual((str, tuple, tuple), (op.__class__, told.__class__, parts.__class__))
        self.assertEqual([int], [thing.__class__ for thing in told])
        self.assertEqual([str, int], [thing.__class__ for thing in parts[0][1]])
        self.assertEqual(tuple, parts[0].__class__)

    def test_every_op_is_read(self):
        for op in OPS:
            program = whole(op)
            self.assertEqual(program, read(told_text(program)))

    def test_what_is_no_program_for_its_sizes_is_read(self):
        self.assertEqual(on("add", row(1), row(1, 2)), read("add([1],[1 2])"))
        self.assertEqual(on("part", row(1), told=(60, 64)), read("part 60 64([1])"))


class BlanksTest(Case):

    def test_between_words_numbers_and_signs(self):
        for gap in (" ", "\n", "  ", " \n", "\n\n ", " " * 50):
            self.assertEqual(EXAMPLE, read(gap.join(
                ["", "cat", "(", "part", "0", "2", "(", "in", "xs", "4", ")", ",", "[", "5", "7", "]", ")", ""])))
            self.assertEqual(row(5, 7), read(gap + "[5" + gap + "7]" + gap))
            self.assertEqual(given("xs", 4), read("in" + gap + "xs" + gap + "4"))

    def test_not_within_words_and_numbers(self):
        self.assertEqual(row(5, 7), read("[5 7]"))
        self.assertEqual(row(57), read("[57]"))
        self.assert_refused(BadOp, 0, read, "r ev([1])")
        self.assert_refused(BadOp, 0, read, "re\nv([1])")
        self.assert_refused(BadOp, 0, read, "in x s 4")
        self.assert_refused(BadOp, 0, read, "in xs 1 6")

    def test_at_every_place(self):
        text = "cat(part 0 2(in xs 4),[5 70],rev(sort([1000002])))"
        wanted = read(text)
        for at in range(len(text) + 1):
            for gap in (" ", "\n", " \n "):
                spread = text[:at] + gap + text[at:]
                within = 0 < at < len(text) and text[at - 1].isalnum() and text[at].isalnum()
                if not within:
                    self.assertEqual(wanted, read(spread), spread)
                else:
                    self.assertNotEqual(wanted, answer_of(spread), spread)

    def test_other_blanks_are_signs_like_others(self):
        for sign in "\t\r\x0b\x0c\x00\x1c\x85\u00a0\u2028\u3000\ufeff":
            for text, offset in (("_[5 7]", 0), ("[_5 7]", 1), ("[5_7]", 2), ("[5 7_]", 4), ("[5 7]_", 5),
                                 ("in_xs 4", 2), ("in xs_4", 5), ("in xs 4_", 7), ("rev_([1])", 3),
                                 ("rev([1]_)", 7), ("add([1]_,[2])", 7), ("add([1],_[2])", 8)):
                self.assert_refused(BadText, offset, read, text.replace("_", sign))

    def test_only_blanks(self):
        for text in ("", " ", "\n", " \n \n"):
            self.assert_refused(BadText, len(text), read, text)


class SignsTest(Case):

    def test_words_and_numbers_that_are_too_long(self):
        self.assert_refused(BadOp, 0, read, "abcdefgh")
        self.assert_refused(BadText, 8, read, "abcdefghi")
        self.assert_refused(BadText, 11, read, "in abcdefghi 4")
        self.assert_refused(BadText, 8, read, "abcdefgh1")
        self.assert_refused(BadOp, 0, read, "[9999999]")
        self.assert_refused(BadText, 8, read, "[12345678]")
        self.assert_refused(BadText, 16, read, "rep 2([1 1000000000])")
        self.assert_refused(BadText, 12, read, "hold 1000000000([1])")

    def test_zeros_at_the_front(self):
        self.assertEqual(row(0, 0), read("[0 0]"))
        for text, offset in (("[01]", 2), ("[1 00]", 4), ("hold 00([1])", 6), ("[0a]", 2), ("[100 010]", 6)):
            self.assert_refused(BadText, offset, read, text)

    def test_words_and_numbers_without_a_gap(self):
        for text, offset in (("in xs4", 5), ("rep2([1])", 3), ("[1a]", 2), ("in 4xs", 4), ("part 0a 3([1])", 6),
                             ("in x1s 4", 4), ("[1]a", 3), ("[1]2", 3), ("rev([1])a", 8), ("rev([1])7", 8)):
            self.assert_refused(BadText, offset, read, text)

    def test_signs_that_stand_nowhere(self):
        for sign in "AZ_-+.;:/!'\"{}<>#&*=\\|~`^@?$\u00e9\u00df\u0661\u00b2\uff11\u0430\U0001d7d8":
            for text, offset in (("_", 0), ("r_ev([1])", 1), ("rev_([1])", 3), ("rev(_[1])", 4), ("[_1]", 1),
                                 ("[1_]", 2), ("[1]_", 3), ("in xs _4", 6), ("in xs 4_", 7), ("rev([1] _)", 8)):
                self.assert_refused(BadText, offset, read, text.replace("_", sign))

    def test_signs_at_a_wrong_place(self):
        for text, offset in (
            ("(", 0), (")", 0), (",", 0), ("]", 0), ("1", 0), ("1 rev([1])", 0), ("[[1]]", 1), ("[a]", 1), ("[,]", 1),
            ("[(1)]", 1), ("[1,2]", 2), ("[1(", 2), ("[1)]", 2), ("[1[", 2), ("[1 x]", 3), ("[1] [2]", 4),
            ("[1],[2]", 3), ("[1])", 3), ("[1](", 3), ("[1]]", 3), ("in xs 4)", 7), ("in xs 4,", 7), ("in xs 4]", 7),
            ("in xs 4[", 7), ("rev[1]", 3), ("rev([1]", 7), ("rev([1]]", 7), ("rev([1]))", 8), ("rev([1])([1])", 8),
            ("rev([1]) rev", 9), ("rev([1])[", 8), ("rev((", 4), ("rev(,", 4), ("rev(1", 4), ("rev(]", 4),
            ("add([1] [2])", 8), ("add([1],,[2])", 8), ("add([1], 2)", 9), ("add(in xs 1,)", 12), ("cat( )", 5),
            ("hold([1]) 3", 10), ("rev]", 3), ("rev)", 3), ("rev,", 3),
        ):
            self.assert_refused(BadText, offset, read, text)

    def test_a_text_cut_short_at_any_place(self):
        text = " cat ( part 10 20(in xs 64) , [ 5 70\n] ) "
        bracket, last = text.index("("), text.rindex(")") + 1
        for end in range(last):
            short = text[:end]
            if short.strip() and end <= bracket:
                # So far it is the text of a joint, though of a wrong one.
                self.assert_refused(BadParts if "cat" in short else BadOp, 1, read, short)
            else:
                self.assert_refused(BadText, end, read, short)
        for end in range(last, len(text) + 1):
            self.assertEqual(read(text), read(text[:end]))

    def test_ordinary_texts_spoilt_at_random(self):
        dice = random.Random(21)
        signs = "abz019 \n,()[]A.([ ,"
        refused = 0
        for program in random_programs(22, 1500, 8):
            text = told_text(program)
            for _ in range(dice.randint(1, 3)):
                at = dice.randrange(len(text) + 1)
                text = text[:at] + dice.choice(["", dice.choice(signs)]) + text[at + dice.randint(0, 1):]
            fault = first_bad_sign(text)
            if fault is not None:
                refused += 1
                self.assert_refused(fault[0], fault[1], read, text)
            else:
                self.assertIsNot(BadText, answer_of(text)[0], text)
        self.assertGreater(refused, 500)

    def test_all_short_texts(self):
        texts = [""]
        for _ in range(5):
            texts = [text + sign for text in texts for sign in "a0 1,()[]"]
            for text in texts:
                fault = first_bad_sign(text)
                answer = answer_of(text)
                if fault is None:
                    self.assertIn(answer[0], (BadOp, BadParts, "row"), text)
                else:
                    self.assertEqual(fault, answer, text)


def answer_of(text):
    """The program of a text, or the pair of the error and what it keeps."""
    try:
        return read(text)
    except ValueError as refusal:
        return (refusal.__class__, refusal.what)


class LimitsTest(Case):

    def test_the_length_of_a_text(self):
        for text in ("[1]", "rev([1])"):
            self.assertEqual(read(text), read(text.ljust(24000)))
            self.assertEqual(read(text), read(text.rjust(24000)))
            self.assert_refused(BadText, 24000, read, text.ljust(24001))
            self.assert_refused(BadText, 24000, read, text.rjust(24001))
        self.assert_refused(BadText, 24000, read, " " * 24000)
        self.assert_refused(BadText, 24000, read, " " * 24001)
        self.assert_refused(BadText, 24000, read, "(" * 24001)
        self.assert_refused(BadText, 0, read, "(" * 24000)
        self.assert_refused(BadText, 24000, read, "[1]" * 20000)
        self.assert_refused(BadText, 23999, read, "[1]".ljust(23999) + ")")

    def test_brackets_that_are_open(self):
        self.assert_refused(BadText, 160, read, "rev(" * 40)
        self.assert_refused(TooMany, 41, read, "rev(" * 41)
        self.assert_refused(TooMany, 41, read, "rev(" * 41 + ")")
        self.assert_refused(TooMany, 41, read, "x 1 row(" * 41 + "?")
        self.assert_refused(TooMany, 41, read, "row(" * 40 + "rev ( ")
        self.assert_refused(BadText, 160, read, "rev(" * 40 + "(")
        self.assert_refused(BadText, 163, read, "rev(" * 40 + "rev")
        self.assert_refused(BadText, 163, read, "rev(" * 40 + "[1](")
        self.assert_refused(BadText, 2, read, "(".join(["[1"] + ["rev"] * 41))

    def test_forty_brackets_hold_one_joint_too_many(self):
        self.assertEqual(over(row(1), 39), read("rev(" * 39 + "[1]" + ")" * 39))
        self.assert_refused(TooMany, 41, read, "rev(" * 40 + "[1]" + ")" * 40)
        self.assert_refused(BadText, 203, read, "rev(" * 40 + "[1]" + ")" * 40 + ")")

    def test_brackets_that_are_closed_again_do_not_count(self):
        text = "cat(" + ", ".join(["rev(rev([1]))"] * 45) + ")"
        self.assert_refused(BadParts, 0, read, text)
        text = "x(" + ", ".join(["rev(rev([1]))"] * 45) + ")"
        self.assert_refused(BadOp, 0, read, text)

    def test_forty_joints_and_more(self):
        for program in (chain(39), chain(40), bush(39), bush(40)):
            self.assertEqual(program, read(told_text(program)))
        for many in (41, 42, 60):
            self.assert_refused(TooMany, 41, read, text_of_bush(many))
        self.assertEqual(bush(40), read(text_of_bush(40)))

    def test_a_bad_sign_comes_before_all_other_faults(self):
        self.assert_refused(BadText, len(text_of_bush(50)), read, text_of_bush(50) + ")")
        self.assert_refused(BadText, 6, read, "ad([1]")
        self.assert_refused(BadText, 15, read, "add([9999999]) x")


def text_of_bush(many):
    """The text of bush(many), which may have more joints than a program."""
    def told(joint):
        if joint[0] == "row":
            return "[5]"
        return "cat(" + ",".join(told(part) for part in joint[2]) + ")"
    return told(bush(many))


class FaultsTest(Case):

    def test_offsets_of_ops(self):
        for error, offset, text in (
            (BadOp, 4, "rev(reverse([1]))"),
            (BadOp, 6, "\nrev( reverse([1]))"),
            (BadOp, 9, "add([1], ad([1], [2]))"),
            (BadOp, 16, "cat(rev([1]),   [1000003 ])"),
            (BadOp, 4, "rev(row 1)"),
            (BadOp, 0, "row"),
            (BadOp, 0, "row 1"),
            (BadOp, 0, "row 1 2([1])"),
            (BadOp, 0, "row([1])"),
            (BadOp, 1, " part 3 3([1 2 3 4])"),
            (BadOp, 0, "part 0 65([1])"),
            (BadOp, 0, "part x 4([1])"),
            (BadOp, 0, "rep 17([1])"),
            (BadOp, 0, "rep 0([1])"),
            (BadOp, 0, "rep([1])"),
            (BadOp, 0, "hold 65([1])"),
            (BadOp, 0, "in xs 65"),
            (BadOp, 0, "in xs 0"),
            (BadOp, 0, "in 4 xs"),
            (BadOp, 0, "in"),
            (BadOp, 0, "rev 1([1])"),
            (BadOp, 0, "rev x([1])"),
            (BadOp, 0, "[1000003]"),
        ):
            self.assert_refused(error, offset, read, text)

    def test_lengths_of_rows(self):
        self.assertEqual(row(*[1] * 64), read("[" + "1 " * 64 + "]"))
        self.assert_refused(BadOp, 4, read, "rev([" + "1 " * 65 + "])")

    def test_offsets_of_parts(self):
        for offset, text in (
            (0, "rev"), (0, "cat"), (0, "add"), (2, "  sum"),
            (0, "in xs 4([1])"), (0, "rev([1],[2])"), (0, "add([1],[2],[3])"),
            (0, "cat([1],[2],[3],[4],[5])"), (4, "rev(add([1]))"), (14, "add(rev([1]), dot ([1]))"),
            (11, "cat([1],\n\n in x 1 ([5]))"), (8, "rev(rev(rev))"), (13, "add(rev([1]),top)"),
            (4, "rev(hold 3)"), (12, "cat([1],[2],cat([1],[2],[3],[4],[5]))"),
        ):
            self.assert_refused(BadParts, offset, read, text)

    def test_the_first_by_the_numbers_of_joints(self):
        self.assert_refused(BadOp, 0, read, "ad(add([1]))")
        self.assert_refused(BadParts, 0, read, "add(ad([1]))")
        self.assert_refused(BadParts, 4, read, "add(add([1]), ad([1]))")
        self.assert_refused(BadOp, 8, read, "add(rev(ad([1])), add([1]))")
        self.assert_refused(BadOp, 0, read, "rev 1")
        self.assert_refused(BadOp, 0, read, "[1000003]")

    def test_the_forty_first_joint_is_not_looked_at(self):
        forty = "rev(" * 38 + "cat("
        self.assert_refused(TooMany, 41, read, forty + "[1],ad" + ")" * 39)
        self.assert_refused(TooMany, 41, read, forty + "[1],[1000003]" + ")" * 39)
        self.assert_refused(BadOp, 156, read, forty + "ad,[1]" + ")" * 39)
        self.assert_refused(BadParts, 156, read, forty + "rev,[1]" + ")" * 39)
        self.assert_refused(BadOp, 0, read, "ad" + text_of_bush(60)[3:])

    def test_deep_in_a_text(self):
        for many in (1, 5, 38):
            start = "rev( " * many
            self.assert_refused(BadOp, 5 * many, read, start + "ad([1])" + ")" * many)
            self.assert_refused(BadParts, 5 * many, read, start + "add([1])" + ")" * many)


if __name__ == "__main__":
    unittest.main()
