"""[2]: made_program with its refusals in their order, and is_program."""

import random
import unittest

from hillrooms.errors import BadOp, BadParts, BadProgram, TooMany
from hillrooms.programs import is_program, made_program
from tests.trees import (
    NO_TRIPLES, OPS, Case, bush, chain, count, deep, given, on, over, parts_wanted, random_programs, row,
)

FAULTS = (
    (BadProgram, None),
    (BadProgram, ("row", (1,))),
    (BadOp, ("ad", (), ())),
    (BadOp, ("row", (), ())),
    (BadOp, ("in", ("xs", 0), (1, 2))),
    (BadParts, ("add", (), (row(1),))),
    (BadParts, ("row", (1,), (None,))),
)


def with_fault(program, number, fault):
    """The program with another thing in the place of a joint (of a leaf, or of a whole bough)."""
    if number == 0:
        return fault
    number -= 1
    parts = list(program[2])
    for index, part in enumerate(parts):
        if number < count(part):
            parts[index] = with_fault(part, number, fault)
            return (program[0], program[1], tuple(parts))
        number -= count(part)
    raise AssertionError("no such joint")


def first_fault(thing):
    """What [2] says of a thing, told by itself: a pair (error, what), or None."""
    met = [0]

    def walk(joint):
        number = met[0]
        met[0] += 1
        if number == 40:
            return (TooMany, 41)
        if not (isinstance(joint, tuple) and len(joint) == 3
                and [kind.__class__ for kind in joint] == [str, tuple, tuple]):
            return (BadProgram, number)
        op, told, parts = joint
        if op not in OPS or not told_right(op, told):
            return (BadOp, number)
        if not parts_wanted(op)[0] <= len(parts) <= parts_wanted(op)[1]:
            return (BadParts, number)
        for part in parts:
            fault = walk(part)
            if fault is not None:
                return fault
        return None

    return walk(thing)


def told_right(op, told):
    numbers = [n for n in told if n.__class__ is int]
    if op == "row":
        return len(numbers) == len(told) in range(1, 65) and set(numbers) <= set(range(0, 1000003))
    if op == "in":
        return (len(told) == 2 and len(numbers) == 1 and told[0].__class__ is str and told[1] in range(1, 65)
                and len(told[0]) in range(1, 9) and set(told[0]) <= set("abcdefghijklmnopqrstuvwxyz"))
    if op == "part":
        return len(numbers) == len(told) == 2 and told[0] in range(0, 64) and told[1] in range(told[0] + 1, 65)
    if op in ("rep", "hold"):
        return len(numbers) == len(told) == 1 and told[0] in (range(1, 17) if op == "rep" else range(0, 65))
    return told == ()


class ProgramsTest(Case):

    def assert_same(self, thing):
        self.assertIs(thing, made_program(thing))
        self.assertIs(True, is_program(thing))

    def assert_fault(self, error, what, thing):
        self.assert_refused(error, what, made_program, thing)
        self.assertIs(False, is_program(thing))

    def test_the_program_itself_is_returned(self):
        program = on("cat", on("part", given("xs", 4), told=(0, 2)), row(5, 7))
        self.assert_same(program)
        self.assertIs(program, made_program(thing=program))
        self.assertIs(True, is_program(thing=program))

    def test_things_that_are_no_triples(self):
        for thing in NO_TRIPLES:
            if first_fault(thing) == (BadProgram, 0):
                self.assert_fault(BadProgram, 0, thing)
        self.assert_fault(BadOp, 0, ("", (), ()))

    def test_things_in_the_place_of_a_part(self):
        for thing in NO_TRIPLES:
            self.assertEqual(BadProgram, first_fault(thing)[0])
            self.assert_fault(BadProgram, 1, on("rev", thing))
            self.assert_fault(BadProgram, 1, on("add", thing, row(1)))
            self.assert_fault(BadProgram, 2, on("add", row(1), thing))
            self.assert_fault(BadProgram, 5, on("cat", row(1), on("rev", row(2)), on("rev", thing), row(3)))

    def test_things_in_the_place_of_an_op(self):
        for thing in NO_TRIPLES:
            error = BadOp if isinstance(thing, str) else BadProgram
            self.assert_fault(error, 0, (thing, (None,), ()))
            self.assert_fault(error, 1, on("rev", (thing, (None,), ())))

    def test_things_in_the_place_of_what_is_told(self):
        for thing in NO_TRIPLES:
            error = BadOp if isinstance(thing, tuple) and thing else BadProgram
            if thing != ():
                self.assert_fault(error, 0, ("rev", thing, (row(1),)))
                self.assert_fault(error, 3, on("cat", on("rev", row(1)), ("rev", thing, (row(1),))))

    def test_things_in_the_place_of_the_parts(self):
        for thing in NO_TRIPLES:
            joint = ("row", (1,), thing)
            if not isinstance(thing, tuple):
                self.assert_fault(BadProgram, 0, joint)
            elif thing:
                self.assert_fault(BadParts, 0, joint)
            else:
                self.assert_same(joint)

    def test_a_joint_in_the_place_of_the_parts(self):
        self.assert_fault(BadParts, 0, ("rev", (), row(1)))
        self.assert_fault(BadParts, 0, ("add", (), row(1)))
        self.assert_fault(BadProgram, 1, ("cat", (), row(1)))

    def test_a_fault_at_each_joint(self):
        for program in (chain(40), bush(40), chain(1), bush(9)):
            for number in range(count(program)):
                for error, fault in FAULTS:
                    self.assert_fault(error, number, with_fault(program, number, fault))

    def test_of_two_faults_the_first_of_the_walk(self):
        program = on("cat", on("rev", row(1)), on("add", row(2), row(3)), row(4))
        leaves = (2, 4, 5, 6)
        for early in leaves:
            for late in leaves:
                for error, fault in FAULTS:
                    for _, other in FAULTS:
                        if early < late:
                            thing = with_fault(with_fault(program, late, other), early, fault)
                            self.assert_fault(error, early, thing)

    def test_a_fault_of_a_joint_comes_before_those_beneath(self):
        self.assert_fault(BadOp, 0, ("ad", (), (None, None)))
        self.assert_fault(BadParts, 0, ("add", (), (None,)))
        self.assert_fault(BadParts, 1, ("cat", (), (("add", (), (None, None, None)), None)))
        self.assert_fault(BadProgram, 2, ("cat", (), (("add", (), (None, None)), None)))

    def test_a_fault_deep_on_the_left_comes_before_a_shallow_one_on_the_right(self):
        self.assert_fault(BadParts, 11, on("add", over(("add", (), ()), 10), None))
        self.assert_fault(BadProgram, 12, on("add", over(row(1), 10), None))

    def test_a_program_twice_under_a_joint(self):
        program = on("rev", row(1, 2))
        self.assert_same(on("add", program, program))
        fault = on("rev", ("row", (), ()))
        self.assert_fault(BadOp, 2, on("add", fault, fault))
        for _ in range(4):
            program = on("add", program, program)
        self.assert_fault(TooMany, 41, program)
        for _ in range(30):
            program = on("add", program, program)
        self.assert_fault(TooMany, 41, program)

    def test_forty_joints_and_more(self):
        for many in (1, 2, 39, 40):
            self.assert_same(chain(many))
            self.assert_same(bush(many))
            self.assertEqual((many, many), (count(chain(many)), count(bush(many))))
        for many in (41, 42, 43, 60, 90):
            self.assert_fault(TooMany, 41, chain(many))
        for many in (41, 42, 57, 200):
            self.assert_fault(TooMany, 41, bush(many))
        wide = on("cat", *[on("cat", *[on("cat", row(1), row(2)) for _ in range(3)]) for _ in range(4)])
        self.assert_fault(TooMany, 41, wide)

    def test_the_forty_first_is_not_looked_at(self):
        for thing in NO_TRIPLES:
            self.assert_fault(TooMany, 41, over(thing, 40))
            self.assert_fault(BadProgram, 39, over(thing, 39))
        for error, fault in FAULTS:
            self.assert_fault(TooMany, 41, over(fault, 40))
            self.assert_fault(error, 39, over(fault, 39))
            self.assert_fault(error, 1, on("add", fault, chain(40)))
            self.assert_fault(TooMany, 41, on("add", chain(40), fault))
            self.assert_fault(error, 39, on("add", chain(38), fault))

    def test_a_fortieth_joint_with_parts(self):
        self.assert_fault(TooMany, 41, over(on("cat", row(1), row(2)), 39))
        self.assert_fault(BadParts, 39, over(on("add", row(1)), 39))
        self.assert_fault(BadOp, 39, over(on("ad", row(1)), 39))

    def test_things_nested_deeply(self):
        self.assert_fault(BadProgram, 0, deep(100))
        self.assert_fault(BadOp, 0, ("row", (deep(97),), ()))
        self.assert_fault(BadParts, 0, ("row", (1,), (deep(97),)))
        self.assert_fault(BadProgram, 1, ("rev", (), (deep(97),)))

    def test_many_programs(self):
        for program in random_programs(1, 300, 40):
            self.assert_same(program)

    def test_many_things(self):
        dice = random.Random(2)
        pieces = [None, 0, 1, 4, 64, -1, "", "xs", "row", "in", "rev", "add", "cat", (), (1,), ("xs", 4), (0, 1)]
        for program in random_programs(3, 400, 12):
            thing = program
            for _ in range(dice.randint(1, 3)):
                thing = mangled(dice, thing, pieces)
            fault = first_fault(thing)
            if fault is None:
                self.assert_same(thing)
            else:
                self.assert_fault(fault[0], fault[1], thing)


def mangled(dice, thing, pieces):
    """The thing with one of its pieces, at whatever depth, put aside for another."""
    if not isinstance(thing, tuple) or not thing or dice.random() < 0.15:
        return dice.choice(pieces)
    place = dice.randrange(len(thing) + 1)
    if place == len(thing):
        return thing + (dice.choice(pieces),) if dice.random() < 0.5 else thing[:-1]
    return thing[:place] + (mangled(dice, thing[place], pieces),) + thing[place + 1:]


if __name__ == "__main__":
    unittest.main()
