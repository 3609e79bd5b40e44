"""[7] and the values of [1]."""

import random
import unittest

from hillrooms.errors import BadInput, BadOp, BadPart, BadParts, BadProgram, TooGreat, TooMany, Unequal
from hillrooms.plainly import plain
from hillrooms.reader import read
from tests.reckoner import MODULUS, worked_out
from tests.trees import Case, chain, given, numbered, on, row, sized_programs

TOP = MODULUS - 1

# The text of a program without inputs, and its value.
KNOWN = (
    ("[7]", (7,)),
    ("[0 1000002 5]", (0, TOP, 5)),
    ("rev([3 1 2])", (2, 1, 3)),
    ("rev([3])", (3,)),
    ("rev(rev([3 1 2]))", (3, 1, 2)),
    ("sort([3 1 2])", (1, 2, 3)),
    ("sort([3 1 3 0 1])", (0, 1, 1, 3, 3)),
    ("sort([10 9 1000002 100])", (9, 10, 100, TOP)),
    ("sum([3 1 2])", (6,)),
    ("sum([1000002 1])", (0,)),
    ("sum([1000002 1000002 1000002])", (TOP - 2,)),
    ("top([3 1 2])", (3,)),
    ("top([0])", (0,)),
    ("top([9 10 1000002 3])", (TOP,)),
    ("add([1 2], [30 40])", (31, 42)),
    ("add([1000002 1000002], [1000002 1])", (TOP - 1, 0)),
    ("sub([30 40], [1 2])", (29, 38)),
    ("sub([1 0], [2 1000002])", (TOP, 1)),
    ("mul([3 4], [5 6])", (15, 24)),
    ("mul([1000002 1000], [1000002 1001])", (1, 997)),
    ("mul([1000], [1000])", (1000000,)),
    ("mul([999 1001], [1001 999])", (999999, 999999)),
    ("dot([1 2 3], [4 5 6])", (32,)),
    ("dot([1000002 1000002], [1000002 1])", (0,)),
    ("dot([1000002 1], [1 0])", (TOP,)),
    ("cat([1])", (1,)),
    ("cat([1], [2 3])", (1, 2, 3)),
    ("cat([4], [2 3], [1], [0 9])", (4, 2, 3, 1, 0, 9)),
    ("outer([1 2], [10 20 30])", (10, 20, 30, 20, 40, 60)),
    ("outer([10 20 30], [1 2])", (10, 20, 20, 40, 30, 60)),
    ("outer([1000002], [1000002 2])", (1, TOP - 1)),
    ("blend([1 2], [10 20 30])", (10, 40, 70, 60)),
    ("blend([10 20 30], [1 2])", (10, 40, 70, 60)),
    ("blend([5], [7])", (35,)),
    ("blend([1000002 1000002], [1 1000002])", (TOP, 0, 1)),
    ("part 1 3([5 6 7 8])", (6, 7)),
    ("part 0 1([5 6 7 8])", (5,)),
    ("part 3 4([5 6 7 8])", (8,)),
    ("part 0 4([5 6 7 8])", (5, 6, 7, 8)),
    ("rep 1([5 6])", (5, 6)),
    ("rep 3([5 6])", (5, 6, 5, 6, 5, 6)),
    ("rep 16([5])", (5,) * 16),
    ("hold 0([5 4])", (5, 4)),
    ("hold 64([5 4])", (5, 4)),
    ("rep 2(rep 2([1]))", (1, 1, 1, 1)),
    ("sub(rev([3 1 2]), sort([3 1 2]))", (1, TOP, 0)),
)


def program_inputs(dice, program):
    """Right inputs for a program, with numbers at the edges among them."""
    found = {}
    for op, told, _ in numbered(program):
        if op == "in":
            found[told[0]] = tuple(dice.choice((0, 1, TOP, dice.randrange(MODULUS))) for _ in range(told[1]))
    return found


class ValuesTest(Case):

    def test_every_op(self):
        for text, wanted in KNOWN:
            self.assertEqual(wanted, plain(read(text), ()), text)

    def test_every_op_over_inputs(self):
        for text, wanted in KNOWN:
            program, inputs = read(text), []
            for number, joint in enumerate(numbered(program)):
                if joint[0] == "row":
                    inputs.append(("abcdefgh"[number], joint[1]))
            self.assertEqual(wanted, plain(with_inputs(program), tuple(inputs)), text)

    def test_arguments_by_name_and_kinds(self):
        value = plain(program=read("rev(in xs 2)"), inputs=(("xs", (5, 7)),))
        self.assertEqual((7, 5), value)
        self.assertEqual((tuple, int), (value.__class__, value[0].__class__))

    def test_many_programs(self):
        dice = random.Random(51)
        for program in sized_programs(52, 400, 40):
            inputs = program_inputs(dice, program)
            wanted = worked_out(program, inputs)[0][2]
            pairs = list(inputs.items())
            dice.shuffle(pairs)
            value = plain(program, tuple(pairs))
            self.assertEqual(wanted, value)
            self.assertTrue(all(0 <= n < MODULUS for n in value))


def with_inputs(program):
    """The program with an input in the place of each row, under a letter for its number."""
    met = [0]

    def walk(joint):
        number = met[0]
        met[0] += 1
        if joint[0] == "row":
            return given("abcdefgh"[number], len(joint[1]))
        return (joint[0], joint[1], tuple(walk(part) for part in joint[2]))

    return walk(program)


class InputsTest(Case):

    THREE = read("cat(in b 1, in a 2, in b 1, in c 3)")

    def test_in_any_order_and_further_ones(self):
        pairs = [("a", (1, 2)), ("b", (9,)), ("c", (3, 4, 5))]
        wanted = (9, 1, 2, 9, 3, 4, 5)
        for first in range(3):
            for more in ((), (("d", (1,)),), (("d", None), ("", "x"), ("B", (-1,)), ("aa", ()))):
                turned = tuple(pairs[first:] + pairs[:first])
                self.assertEqual(wanted, plain(self.THREE, turned + more))
                self.assertEqual(wanted, plain(self.THREE, more + turned[::-1]))

    def test_inputs_of_a_program_without_any(self):
        self.assertEqual((1,), plain(row(1), ()))
        self.assertEqual((1,), plain(row(1), (("a", None), ("b", (1, 2)))))

    def test_a_name_that_is_missing(self):
        self.assert_refused(BadInput, "xs", plain, given("xs", 1), ())
        self.assert_refused(BadInput, "xs", plain, given("xs", 1), (("x", (1,)), ("xss", (1,)), ("XS", (1,))))
        self.assert_refused(BadInput, "c", plain, self.THREE, (("a", (1, 2)), ("b", (1,))))

    def test_rows_that_do_not_fit(self):
        program = on("rev", given("xs", 3))
        for fits in ((0, 0, 0), (TOP, TOP, TOP), (1, 2, 3)):
            self.assertEqual(fits[::-1], plain(program, (("xs", fits),)))
        for thing in ((), (1,), (1, 2), (1, 2, 3, 4), (1, 2, 3) * 2, (-1, 2, 3), (1, 2, -1), (1, MODULUS, 3),
                      (1, 2, MODULUS), (10 ** 50, 1, 1), (None, 2, 3), (1, 2, None), ("1", "2", "3"), (1, 2, "3"),
                      ((1, 2, 3),), ((1,), (2,), (3,)), (1, 2, (3,)), ((), (), ()), None, "", "123", "abc", 3, 0,
                      123, -1):
            self.assert_refused(BadInput, "xs", plain, program, (("xs", thing),))
            self.assert_refused(BadInput, "xs", plain, program, (("a", (1, 2, 3)), ("xs", thing), ("b", None)))

    def test_rows_of_64(self):
        program = on("rev", given("xs", 64))
        self.assertEqual(tuple(range(64))[::-1], plain(program, (("xs", tuple(range(64))),)))
        for k in (63, 65, 0, 128):
            self.assert_refused(BadInput, "xs", plain, program, (("xs", (1,) * k),))

    def test_an_input_that_no_value_needs_is_checked(self):
        self.assert_refused(BadInput, "ys", plain, read("part 0 1(cat(in xs 1, in ys 1))"), (("xs", (1,)),))

    def test_the_first_of_the_names_is_refused(self):
        right = {"a": (1, 2), "b": (9,), "c": (3, 4, 5)}
        wrong = {"a": (1,), "b": (-1,), "c": None}
        for kinds in range(27):
            pairs = []
            faults = []
            for name in ("b", "a", "c"):
                kinds, kind = divmod(kinds, 3)
                if kind < 2:
                    pairs.append((name, wrong[name] if kind else right[name]))
                if kind:
                    faults.append(name)
            for inputs in (tuple(pairs), tuple(pairs[::-1])):
                if faults:
                    self.assert_refused(BadInput, faults[0], plain, self.THREE, inputs)
                else:
                    self.assertEqual((9, 1, 2, 9, 3, 4, 5), plain(self.THREE, inputs))

    def test_refused_programs_and_sizes_come_ahead_of_inputs(self):
        for error, what, thing in (
            (BadProgram, 0, None),
            (BadProgram, 2, on("add", given("xs", 1), 4)),
            (BadOp, 1, on("rev", ("in", ("xs", 0), ()))),
            (BadParts, 0, on("add", given("xs", 1))),
            (TooMany, 41, chain(41)),
            (Unequal, 0, on("add", given("xs", 1), given("y", 2))),
            (BadPart, 0, on("part", given("xs", 1), told=(0, 2))),
            (TooGreat, 0, on("rep", given("xs", 64), told=(2,))),
            (BadInput, "y", on("cat", given("xs", 1), given("y", 2), given("y", 3))),
        ):
            for inputs in ((), (("xs", (1, 2, 3)),), (("xs", None),)):
                self.assert_refused(error, what, plain, thing, inputs)


if __name__ == "__main__":
    unittest.main()
