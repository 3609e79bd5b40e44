"""[6] and the sizes and rooms of [1]."""

import unittest

from hillrooms.errors import BadInput, BadOp, BadPart, BadParts, BadProgram, TooGreat, TooMany, Unequal
from hillrooms.reader import read
from hillrooms.rooms import rooms
from hillrooms.sizes import is_sized, sizes
from tests.reckoner import worked_out
from tests.trees import Case, bush, chain, given, numbered, on, row, sized_programs

# The text of a program, its sizes and its rooms.
KNOWN = (
    ("[7]", (1,), (0,)),
    ("[7 8 9]", (3,), (0,)),
    ("in xs 64", (64,), (0,)),
    ("in xs 1", (1,), (0,)),
    ("rev([1 2 3])", (3, 3), (0, 0)),
    ("sort([1 2 3])", (3, 3), (3, 0)),
    ("sum([1 2 3])", (1, 3), (0, 0)),
    ("top([1 2 3])", (1, 3), (0, 0)),
    ("add([1 2 3], in xs 3)", (3, 3, 3), (0, 0, 0)),
    ("sub([1 2 3], in xs 3)", (3, 3, 3), (0, 0, 0)),
    ("mul([1 2 3], in xs 3)", (3, 3, 3), (0, 0, 0)),
    ("dot([1 2 3], in xs 3)", (1, 3, 3), (3, 0, 0)),
    ("cat([1 2 3])", (3, 3), (0, 0)),
    ("cat([1 2 3], in xs 5)", (8, 3, 5), (0, 0, 0)),
    ("cat([1 2 3], in xs 5, [1], in y 2)", (11, 3, 5, 1, 2), (0, 0, 0, 0, 0)),
    ("outer([1 2 3], in xs 5)", (15, 3, 5), (0, 0, 0)),
    ("outer(in xs 5, [1 2 3])", (15, 5, 3), (0, 0, 0)),
    ("blend([1 2 3], in xs 5)", (7, 3, 5), (3, 0, 0)),
    ("blend(in xs 5, [1 2 3])", (7, 5, 3), (5, 0, 0)),
    ("blend([1], [2])", (1, 1, 1), (1, 0, 0)),
    ("part 1 4(in xs 5)", (3, 5), (0, 0)),
    ("part 0 5(in xs 5)", (5, 5), (0, 0)),
    ("part 4 5(in xs 5)", (1, 5), (0, 0)),
    ("part 0 64(in xs 64)", (64, 64), (0, 0)),
    ("rep 1([1 2 3])", (3, 3), (0, 0)),
    ("rep 16(in xs 4)", (64, 4), (0, 0)),
    ("hold 0([1 2 3])", (3, 3), (0, 0)),
    ("hold 17([1 2 3])", (3, 3), (17, 0)),
    ("hold 64([1 2 3])", (3, 3), (64, 0)),
    ("hold 9(sort(cat(sum([1 2]), dot([3 4], [5 6]))))", (2, 2, 2, 1, 2, 1, 2, 2), (9, 2, 0, 0, 0, 2, 0, 0)),
)

# Values of 64 numbers, and of 65.
FULL = (
    "cat(in a 63, [1])", "cat(in a 64)", "cat(in a 16, in a 16, in a 16, in a 16)", "outer(in a 8, in b 8)",
    "outer(in a 64, [1])", "outer([1], in a 64)", "outer(in a 4, in b 16)", "blend(in a 64, [1])",
    "blend(in a 32, in b 33)", "blend([1], in a 64)", "rep 16(in a 4)", "rep 1(in a 64)", "rep 2(in a 32)",
    "rep 4(in a 16)",
)
OVERFULL = (
    "cat(in a 64, [1])", "cat([1], in a 64)", "cat(in a 16, in a 16, in a 16, in b 17)", "outer(in a 13, in b 5)",
    "outer(in a 5, in b 13)", "outer(in a 64, in a 64)", "blend(in a 33, in a 33)", "blend(in a 64, [1 2])",
    "blend([1 2], in a 64)", "rep 5(in a 13)", "rep 13(in a 5)", "rep 16(in a 64)", "rep 2(in a 33)",
    "rep 16(in a 5)",
)


class SizesTest(Case):

    def assert_same_refusal(self, error, what, program):
        self.assert_refused(error, what, sizes, program)
        self.assert_refused(error, what, rooms, program)
        self.assertIs(False, is_sized(program))

    def test_every_op(self):
        for text, wanted, rooms_wanted in KNOWN:
            program = read(text)
            self.assertEqual(wanted, sizes(program), text)
            self.assertEqual(rooms_wanted, rooms(program), text)
            self.assertIs(True, is_sized(program))

    def test_arguments_by_name_and_kinds(self):
        program = read("sort([1 2 3])")
        self.assertEqual(((3, 3), (3, 0)), (sizes(program=program), rooms(program=program)))
        self.assertEqual((tuple, tuple), (sizes(program).__class__, rooms(program).__class__))

    def test_many_programs(self):
        for program in sized_programs(41, 400, 40):
            known = worked_out(program)
            self.assertEqual(tuple(size for size, _, _ in known), sizes(program))
            self.assertEqual(tuple(room for _, room, _ in known), rooms(program))

    def test_values_of_64_numbers(self):
        for text in FULL:
            self.assertEqual(64, sizes(read(text))[0], text)

    def test_values_of_65_numbers_and_more(self):
        for text in OVERFULL:
            self.assert_same_refusal(TooGreat, 0, read(text))
            self.assert_same_refusal(TooGreat, 2, read("rev(sum(" + text + "))"))

    def test_a_value_that_is_too_great_only_in_the_middle(self):
        self.assert_same_refusal(TooGreat, 1, read("sum(rep 16(in a 64))"))
        self.assert_same_refusal(TooGreat, 1, read("part 0 1(cat(in a 64, [1]))"))

    def test_a_room_is_no_part_of_a_size(self):
        self.assertEqual((64, 64), sizes(read("hold 64(in a 64)")))
        self.assertEqual((64, 0), rooms(read("sort(in a 64)")))
        self.assertEqual((64, 0, 0), rooms(read("blend(in a 64, [1])")))
        self.assertEqual((64, 0, 0), rooms(read("dot(in a 64, in b 64)")))

    def test_parts_of_different_sizes(self):
        for op in ("add", "sub", "mul", "dot"):
            for one, two in ((1, 2), (2, 1), (64, 63), (1, 64)):
                program = on(op, given("a", one), given("b", two))
                self.assert_same_refusal(Unequal, 0, program)
                self.assert_same_refusal(Unequal, 2, on("cat", row(1), program))
        for op in ("outer", "blend", "cat"):
            self.assertIs(True, is_sized(on(op, given("a", 2), given("b", 3))))

    def test_parts_beyond_the_end(self):
        for told, k in (((0, 2), 1), ((0, 64), 63), ((4, 5), 4), ((63, 64), 1), ((1, 4), 3)):
            program = on("part", given("a", k), told=told)
            self.assert_same_refusal(BadPart, 0, program)
            self.assert_same_refusal(BadPart, 3, on("cat", on("rev", row(1)), program))

    def test_the_joint_of_the_greater_number_comes_first(self):
        faults = (
            (Unequal, on("add", given("a", 3), given("b", 2))),
            (BadPart, on("part", given("a", 3), told=(0, 4))),
            (TooGreat, on("rep", given("c", 40), told=(2,))),
        )
        for error, fault in faults:
            for other, late in faults:
                program = on("cat", fault, late)
                number = 1 + len(numbered(fault))
                self.assert_same_refusal(other, number, program)
                self.assert_same_refusal(error, 1, on("cat", fault, row(1)))

    def test_a_fault_beneath_comes_before_one_above(self):
        self.assert_same_refusal(BadPart, 1, read("add(part 0 2([1]), [1 2 3])"))
        self.assert_same_refusal(TooGreat, 2, read("add([1], rep 16(in a 5))"))
        self.assert_same_refusal(Unequal, 1, read("part 0 64(add([1], [1 2]))"))
        self.assert_same_refusal(TooGreat, 0, read("cat(in a 40, in a 40)"))

    def test_a_fault_on_the_right_comes_before_one_deep_on_the_left(self):
        self.assert_same_refusal(BadPart, 5, read("cat(rev(add([1], [1 2])), part 0 2([1]))"))

    def test_a_name_with_two_sizes(self):
        self.assert_same_refusal(BadInput, "a", read("cat(in a 1, in a 2)"))
        self.assert_same_refusal(BadInput, "a", read("cat(rev(in a 2), sum(in a 1))"))
        self.assert_same_refusal(BadInput, "xs", read("cat(in xs 2, in xs 2, in xs 3)"))
        self.assert_same_refusal(BadInput, "xs", read("cat(in xs 2, in y 2, in xs 3, in y 4)"))
        self.assert_same_refusal(BadInput, "y", read("cat(in xs 2, in y 2, in y 3, in xs 4)"))
        self.assert_same_refusal(BadInput, "b", read("cat(in a 1, in b 1, cat(in b 2, in a 2))"))
        self.assert_same_refusal(BadInput, "b", read("cat(in a 1, in b 2, cat(in b 1, in a 2))"))
        self.assert_same_refusal(BadInput, "a", read("cat(in a 1, in a 2, in a 1)"))

    def test_a_name_that_stands_again_with_one_size(self):
        self.assertEqual((2, 2, 2), sizes(read("add(in a 2, in a 2)")))
        self.assertEqual((3, 1, 2), sizes(read("cat(in a 1, in aa 2)")))

    def test_sizes_come_ahead_of_names(self):
        self.assert_same_refusal(Unequal, 0, read("add(in a 1, in a 2)"))
        self.assert_same_refusal(TooGreat, 0, read("cat(in a 60, in a 61)"))
        self.assert_same_refusal(BadPart, 0, read("part 0 4(cat(in a 1, in a 2))"))

    def test_what_is_no_program(self):
        for error, what, thing in (
            (BadProgram, 0, None),
            (BadProgram, 2, on("add", row(1), None)),
            (BadOp, 1, on("rev", ("row", (), ()))),
            (BadParts, 2, on("add", row(1), on("rev"))),
            (TooMany, 41, chain(41)),
            (TooMany, 41, bush(41)),
        ):
            self.assert_same_refusal(error, what, thing)

    def test_what_is_no_program_comes_ahead_of_sizes(self):
        self.assert_same_refusal(BadOp, 1, on("add", ("row", (), ()), on("part", row(1), told=(0, 9))))
        self.assert_same_refusal(BadProgram, 3, on("cat", on("rep", given("a", 64), told=(2,)), None))


if __name__ == "__main__":
    unittest.main()
