"""[2]: joints, above, names, the numbers of parts and the sizes of boughs."""

import unittest

from hillrooms.errors import BadOp, BadParts, BadProgram, TooMany
from hillrooms.joints import above, bough_sizes, joints, names, part_numbers
from tests.trees import (
    Case, bush, chain, count, given, numbered, on, parts_by_number, random_programs, row, sized_programs,
)

REFUSALS = (
    (BadProgram, 0, None),
    (BadProgram, 2, on("add", row(1), 7)),
    (BadOp, 1, on("rev", ("ad", (), ()))),
    (BadParts, 3, on("cat", row(1), row(2), on("add", row(3)))),
    (TooMany, 41, chain(41)),
    (TooMany, 41, bush(50)),
)

LEFT = on("sub", given("xs", 4), on("rev", row(1, 2, 3, 4)))
RIGHT = on("cat", on("part", given("y", 9), told=(0, 2)), given("xs", 2))
BOTH = on("mul", LEFT, RIGHT)


def refuse_all(case, function):
    for error, what, thing in REFUSALS:
        case.assert_refused(error, what, function, thing)


class JointsTest(Case):

    def test_each_joint_comes_before_its_parts(self):
        self.assertEqual((row(1),), joints(row(1)))
        self.assertEqual(
            (BOTH, LEFT, given("xs", 4), LEFT[2][1], row(1, 2, 3, 4),
             RIGHT, RIGHT[2][0], given("y", 9), given("xs", 2)),
            joints(BOTH))
        self.assertEqual(joints(BOTH), joints(program=BOTH))

    def test_a_joint_that_stands_twice_is_told_twice(self):
        part = on("rev", row(1))
        self.assertEqual((on("add", part, part), part, row(1), part, row(1)), joints(on("add", part, part)))

    def test_many_programs(self):
        for program in random_programs(11, 200, 40) + [chain(40), bush(40)]:
            found = joints(program)
            self.assertIs(tuple, found.__class__)
            self.assertEqual(tuple(numbered(program)), found)

    def test_sizes_are_not_looked_at(self):
        program = on("add", row(1), row(1, 2))
        self.assertEqual((program, row(1), row(1, 2)), joints(program))

    def test_refusals(self):
        refuse_all(self, joints)


class AboveTest(Case):

    def test_the_joint_of_which_each_is_a_part(self):
        self.assertEqual((-1,), above(row(1)))
        self.assertEqual((-1, 0, 1, 1, 3, 0, 5, 6, 5), above(BOTH))
        self.assertEqual((-1, 0, 0, 0, 0), above(on("cat", row(1), row(2), row(3), row(4))))
        self.assertEqual((-1,) + tuple(range(39)), above(chain(40)))
        self.assertEqual(above(BOTH), above(program=BOTH))

    def test_a_joint_that_stands_twice(self):
        part = on("rev", row(1))
        self.assertEqual((-1, 0, 1, 0, 3), above(on("add", part, part)))

    def test_many_programs(self):
        for program in random_programs(12, 200, 40) + [bush(40)]:
            found = above(program)
            wanted = [-1] * count(program)
            for number, parts in enumerate(parts_by_number(program)):
                for part in parts:
                    wanted[part] = number
            self.assertEqual(tuple(wanted), found)
            self.assertIs(tuple, found.__class__)

    def test_refusals(self):
        refuse_all(self, above)


class NamesTest(Case):

    def test_in_the_order_of_the_first_joint_with_each(self):
        self.assertEqual((), names(row(1)))
        self.assertEqual((("xs", 4),), names(given("xs", 4)))
        self.assertEqual((("xs", 4), ("y", 9)), names(BOTH))
        self.assertEqual(
            (("b", 1), ("a", 2), ("c", 3)),
            names(on("cat", given("b", 1), given("a", 2), given("b", 1), given("c", 3))))
        self.assertEqual(names(BOTH), names(program=BOTH))

    def test_a_name_with_two_sizes_has_the_first(self):
        self.assertEqual((("n", 7),), names(on("cat", given("n", 7), given("n", 3))))
        self.assertEqual((("n", 3),), names(on("cat", on("rev", given("n", 3)), given("n", 7), given("n", 64))))

    def test_a_number_in_a_row_is_no_name(self):
        self.assertEqual((), names(on("rep", row(1, 2), told=(3,))))

    def test_many_programs(self):
        for program in random_programs(13, 200, 40) + sized_programs(14, 50, 40):
            wanted = {}
            for op, told, _ in numbered(program):
                if op == "in" and told[0] not in wanted:
                    wanted[told[0]] = told[1]
            self.assertEqual(tuple(wanted.items()), names(program))

    def test_refusals(self):
        refuse_all(self, names)


class BoughsTest(Case):

    def test_numbers_of_parts(self):
        self.assertEqual(((1, 5), (2, 3), (), (4,), (), (6, 8), (7,), (), ()), part_numbers(BOTH))
        for program in random_programs(15, 100, 40):
            self.assertEqual(tuple(map(tuple, parts_by_number(program))), part_numbers(program))

    def test_sizes_of_boughs(self):
        self.assertEqual((9, 4, 1, 2, 1, 4, 2, 1, 1), bough_sizes(BOTH))
        for program in random_programs(16, 100, 40):
            self.assertEqual(tuple(count(joint) for joint in numbered(program)), bough_sizes(program))


if __name__ == "__main__":
    unittest.main()
