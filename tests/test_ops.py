"""[1]: the ops, what may be told to each, and how many parts each wants."""

import unittest

from hillrooms.errors import BadOp, BadParts
from hillrooms.programs import is_program, made_program
from tests.trees import (
    LEAST_TOLD, LEAVES, NOTHING_TOLD, OPS, Case, given, on, parts_wanted, row, whole, with_parts,
)

# Told things that no op but perhaps the listed one wants.
STRANGE = (None, "", "1", "a", (), (1,), -1, 10 ** 50)


class OpsTest(Case):

    def assert_told(self, op, told):
        joint = whole(op, told)
        self.assertIs(joint, made_program(joint))
        self.assertIs(True, is_program(joint))

    def assert_not_told(self, op, told):
        self.assert_refused(BadOp, 0, made_program, whole(op, told))
        self.assert_refused(BadOp, 1, made_program, on("rev", whole(op, told)))
        self.assertIs(False, is_program(whole(op, told)))

    def test_every_op_is_let(self):
        for op in OPS:
            self.assert_told(op, LEAST_TOLD.get(op, ()))

    def test_other_words_are_no_ops(self):
        words = ("", "Row", "ROW", " row", "row ", "rows", "ro", "min", "max", "input", "holds", "cats",
                 "concat", "a", "reverse", "in xs 4", "0", "\n", "rev\n")
        for word in words:
            for told in ((), (1,), ("xs", 4), (0, 1)):
                for many in (0, 1, 2):
                    self.assert_refused(BadOp, 0, made_program, with_parts(word, many, told))

    def test_nothing_is_told(self):
        for op in NOTHING_TOLD:
            self.assert_told(op, ())
            for told in ((0,), (1,), ("",), ("xs",), (None,), ((),), (0, 1), ("xs", 4)):
                self.assert_not_told(op, told)

    def test_rows(self):
        for told in ((0,), (1000002,), (0,) * 64, tuple(range(64)), (1000002,) * 64, (3, 3, 0)):
            self.assert_told("row", told)
        for told in ((), (0,) * 65, (0,) * 9000, (-1,), (1000003,), (0, -1), (5, 1000003, 5),
                     (0,) * 63 + (1000003,), (-1,) + (0,) * 63, (10 ** 50,), (-(10 ** 50),)):
            self.assert_not_told("row", told)
        for thing in STRANGE[:6]:
            self.assert_not_told("row", (thing,))
            self.assert_not_told("row", (1, 2, thing))
            self.assert_not_told("row", (thing, 2, 1))

    def test_names_of_inputs(self):
        for name in ("a", "z", "xs", "abcdefgh", "stuvwxyz", "ijklmnop", "qr", "row", "in", "zzzzzzzz"):
            self.assert_told("in", (name, 4))
        for name in ("", "abcdefghi", "a" * 9000, "X", "xS", "Xs", "x1", "1x", "1", "x_s", "_", "x s",
                     " xs", "xs ", "x\n", "\nx", "x-s", "x.", "\u00e9", "x\u00e9", "\u00df", "\u03b1",
                     "\u0430", "\uff41", "\u00aa", "`", "{", "a`", "z{", None, 4, (), ("xs",)):
            self.assert_not_told("in", (name, 4))

    def test_sizes_of_inputs(self):
        for k in (1, 2, 63, 64):
            self.assert_told("in", ("xs", k))
        for k in (0, -1, 65, 1000, 10 ** 50, -(10 ** 50), None, "", "4", "xs", (), (4,)):
            self.assert_not_told("in", ("xs", k))

    def test_how_much_is_told_of_inputs(self):
        for told in ((), ("xs",), (4,), (4, "xs"), ("xs", 4, 4), ("xs", "xs", 4), (4, 4), ("xs", "xs"),
                     (("xs", 4),), ("xs", 4, ()), (None, None), ((), ())):
            self.assert_not_told("in", told)

    def test_parts_told(self):
        for told in ((0, 1), (0, 64), (63, 64), (1, 2), (5, 64), (0, 2)):
            self.assert_told("part", told)
        for told in ((0, 0), (1, 1), (64, 64), (2, 1), (1, 0), (-1, 1), (-1, 0), (-2, -1), (0, 65), (64, 65),
                     (63, 65), (65, 66), (0, 10 ** 50), (-(10 ** 50), 1), (0, -1), (63, 10 ** 9)):
            self.assert_not_told("part", told)
        for told in ((), (0,), (1,), (0, 1, 2), (0, 1, 1), ("0", 1), (0, "1"), ("a", "b"), (None, 1),
                     (0, None), ((0,), 1), (0, (1,)), ((0, 1),), ("xs", 4), ((), ()), ("", "")):
            self.assert_not_told("part", told)

    def test_times_told(self):
        for n in (1, 2, 15, 16):
            self.assert_told("rep", (n,))
        for told in ((0,), (17,), (-1,), (64,), (10 ** 50,), (), (1, 1), (None,), ("1",), ("",), ((1,),), ((),),
                     ("xs",), (2, 3), (1, None)):
            self.assert_not_told("rep", told)

    def test_rooms_told(self):
        for n in (0, 1, 17, 63, 64):
            self.assert_told("hold", (n,))
        for told in ((-1,), (65,), (10 ** 50,), (-(10 ** 50),), (), (0, 0), (1, 1), (None,), ("0",), ("",),
                     ((0,),), ((),), ("xs",), (0, None)):
            self.assert_not_told("hold", told)

    def test_how_many_parts(self):
        for op in OPS:
            least, most = parts_wanted(op)
            for many in range(0, 8):
                joint = with_parts(op, many)
                if least <= many <= most:
                    self.assertIs(joint, made_program(joint))
                    self.assertIs(True, is_program(joint))
                else:
                    self.assert_refused(BadParts, 0, made_program, joint)
                    self.assertIs(False, is_program(joint))

    def test_more_parts_than_a_program_has_joints(self):
        for op in OPS:
            self.assert_refused(BadParts, 0, made_program, with_parts(op, 41))
            self.assert_refused(BadParts, 0, made_program, with_parts(op, 2000))

    def test_bad_op_comes_before_bad_parts(self):
        for op in LEAVES:
            self.assert_refused(BadOp, 0, made_program, with_parts(op, 1, ()))
        self.assert_refused(BadOp, 0, made_program, with_parts("cat", 5, (1,)))
        self.assert_refused(BadOp, 0, made_program, with_parts("add", 1, (1,)))
        self.assert_refused(BadOp, 0, made_program, with_parts("ad", 9, ()))

    def test_parts_may_be_of_any_size_here(self):
        made_program(on("add", row(1), row(1, 2)))
        made_program(on("part", row(1), told=(60, 64)))
        made_program(on("rep", given("xs", 64), told=(16,)))
        made_program(on("cat", given("xs", 64), given("xs", 1)))


if __name__ == "__main__":
    unittest.main()
