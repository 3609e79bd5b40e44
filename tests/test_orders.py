"""[8]: orders judged, the first order, and orders that finish one branch before the next."""

import random
import unittest
from itertools import permutations

from hillrooms.errors import BadOrder
from hillrooms.orders import branchwise, first_order, is_order
from hillrooms.reader import read
from tests.refusals import NO_PROGRAMS, NO_SIZES
from tests.runs import random_order, stands_side_by_side
from tests.samples import TREE
from tests.trees import (
    NO_TRIPLES, Case, bush, chain, given, on, parts_by_number, random_programs, row, sized_programs,
)


def first_fault(program, order):
    """What [8] says of an order, joint by joint: the index of the first fault, or None."""
    parts = parts_by_number(program)
    for index, number in enumerate(order):
        if number not in range(len(parts)) or number in order[:index]:
            return index
        if any(part not in order[:index] for part in parts[number]):
            return index
    return None if len(order) == len(parts) else len(order)


class IsOrderTest(Case):

    def test_orders(self):
        self.assertIs(True, is_order(row(1), (0,)))
        for order in ((2, 3, 1, 6, 5, 4, 0), (6, 5, 4, 3, 2, 1, 0), (6, 2, 5, 3, 4, 1, 0)):
            self.assertIs(True, is_order(TREE, order))
            self.assertIs(True, is_order(program=TREE, order=order))

    def test_tuples_that_are_none(self):
        for order in ((), (0,), (0, 1, 2, 3, 4, 5, 6), (2, 3, 1, 6, 5, 4), (2, 3, 1, 6, 5, 0, 4), (2, 3, 1, 6, 4, 5, 0),
                      (2, 1, 3, 6, 5, 4, 0), (2, 3, 1, 6, 5, 4, 0, 0), (2, 3, 1, 6, 5, 4, 0, 7), (2, 3, 1, 6, 5, 4, 4),
                      (2, 2, 3, 1, 6, 5, 4, 0), (2, 3, 1, 6, 5, 4, -7), (2, 3, 1, 6, 5, 4, 10 ** 30),
                      (-5, 3, 1, 6, 5, 4, 0), (2, 3, 1, 6, 5, 4, 7), (7, 2, 3, 1, 6, 5, 4, 0)):
            self.assertIs(False, is_order(TREE, order), order)

    def test_all_tuples_of_a_small_program(self):
        program = read("cat(rev([1]), [2])")
        orders = [order for order in permutations(range(4)) if is_order(program, order)]
        self.assertEqual([(2, 1, 3, 0), (2, 3, 1, 0), (3, 2, 1, 0)], orders)

    def test_things_of_any_kind(self):
        for thing in NO_TRIPLES:
            self.assertIs(False, is_order(TREE, thing))
            self.assertIs(False, is_order(row(1), thing))
            self.assertIs(False, is_order(TREE, (2, 3, 1, 6, thing, 4, 0)))
            self.assertIs(False, is_order(TREE, (thing, 3, 1, 6, 5, 4, 0)))
            self.assertIs(False, is_order(thing, (0,)))
            self.assertIs(False, is_order(on("rev", thing), (1, 0)))
            self.assertIs(False, is_order(thing, thing))
        for order in ("0", "", None, 0, ((0,),), ("0",), (None,), ((),)):
            self.assertIs(False, is_order(row(1), order))

    def test_long_tuples(self):
        self.assertIs(False, is_order(TREE, (2,) * 9000))
        self.assertIs(False, is_order(TREE, (2, 3, 1, 6, 5, 4, 0) * 1000))
        self.assertIs(False, is_order(TREE, tuple(range(9000))))

    def test_programs_whose_sizes_are_refused(self):
        for _, _, program in NO_SIZES:
            self.assertIs(False, is_order(program, first_order(program)))

    def test_programs_that_are_none(self):
        for _, _, thing in NO_PROGRAMS:
            self.assertIs(False, is_order(thing, (0,)))
            self.assertIs(False, is_order(thing, ()))
        self.assertIs(False, is_order(chain(41), tuple(range(41))[::-1]))

    def test_many_programs(self):
        dice = random.Random(61)
        for program in sized_programs(62, 150, 40):
            order = random_order(dice, program, True)
            self.assertIs(True, is_order(program, order))
            spoilt = spoil(dice, order)
            self.assertIs(first_fault(program, spoilt) is None, is_order(program, spoilt))


def spoil(dice, order):
    """The order with one of its numbers moved, changed, left out or put in."""
    order = list(order)
    at, other = dice.randrange(len(order)), dice.randrange(len(order))
    way = dice.randrange(5)
    if way == 0:
        order[at], order[other] = order[other], order[at]
    elif way == 1:
        order[at] = dice.choice((-1, len(order), order[other], 0))
    elif way == 2:
        order.insert(at, dice.choice((order[other], len(order))))
    elif way == 3:
        del order[at]
    else:
        order.append(order[other])
    return tuple(order)


class FirstOrderTest(Case):

    def test_the_parts_from_the_left_then_the_joint(self):
        self.assertEqual((0,), first_order(row(1)))
        self.assertEqual((2, 3, 1, 6, 5, 4, 0), first_order(TREE))
        self.assertEqual((1, 2, 3, 4, 0), first_order(read("cat([1], [2], [3], [4])")))
        self.assertEqual(tuple(range(40))[::-1], first_order(chain(40)))
        self.assertEqual((2, 3, 1, 6, 5, 4, 0), first_order(program=TREE))
        self.assertIs(tuple, first_order(TREE).__class__)

    def test_many_programs(self):
        for program in random_programs(63, 200, 40) + [bush(40)]:
            parts = parts_by_number(program)

            def walk(number):
                return [joint for part in parts[number] for joint in walk(part)] + [number]

            self.assertEqual(tuple(walk(0)), first_order(program))
            self.assertIs(True, branchwise(program, first_order(program)))

    def test_sizes_are_not_looked_at(self):
        orders = [first_order(program) for _, _, program in NO_SIZES]
        self.assertEqual([(1, 2, 0), (1, 0), (1, 0), (1, 2, 0), (2, 3, 1, 0)], orders)

    def test_refusals(self):
        for error, what, thing in NO_PROGRAMS:
            self.assert_refused(error, what, first_order, thing)


class BranchwiseTest(Case):

    def test_orders_that_are(self):
        self.assertIs(True, branchwise(row(1), (0,)))
        self.assertIs(True, branchwise(chain(40), tuple(range(40))[::-1]))
        for order in ((2, 3, 1, 6, 5, 4, 0), (3, 2, 1, 6, 5, 4, 0), (6, 5, 4, 2, 3, 1, 0), (6, 5, 4, 3, 2, 1, 0)):
            self.assertIs(True, branchwise(TREE, order))
            self.assertIs(True, branchwise(program=TREE, order=order))

    def test_orders_that_are_not(self):
        for order in ((2, 6, 3, 1, 5, 4, 0), (6, 2, 3, 1, 5, 4, 0), (2, 3, 6, 5, 4, 1, 0), (6, 5, 2, 4, 3, 1, 0),
                      (6, 5, 2, 3, 1, 4, 0), (2, 6, 5, 4, 3, 1, 0), (2, 3, 6, 1, 5, 4, 0)):
            self.assertIs(False, branchwise(TREE, order))

    def test_a_bough_deep_beneath(self):
        program = read("rev(rev(cat(rev([1]), rev([2]))))")
        self.assertIs(True, branchwise(program, (4, 3, 6, 5, 2, 1, 0)))
        self.assertIs(True, branchwise(program, (6, 5, 4, 3, 2, 1, 0)))
        self.assertIs(False, branchwise(program, (4, 6, 3, 5, 2, 1, 0)))
        self.assertIs(False, branchwise(program, (4, 6, 5, 3, 2, 1, 0)))

    def test_no_joint(self):
        for number in (-1, 7, 8, -7, 10 ** 30, -(10 ** 30)):
            for index in range(7):
                order = (2, 3, 1, 6, 5, 4, 0)
                self.assert_refused(BadOrder, index, branchwise, TREE, order[:index] + (number,) + order[index:])
                self.assert_refused(BadOrder, index, branchwise, TREE, order[:index] + (number,) + order[index + 1:])
            self.assert_refused(BadOrder, 7, branchwise, TREE, order + (number,))

    def test_a_joint_that_has_stood_before(self):
        for order, index in (((2, 2, 3, 1, 6, 5, 4, 0), 1), ((2, 3, 1, 2, 6, 5, 4, 0), 3), ((2, 3, 1, 6, 5, 4, 4), 6),
                             ((2, 3, 1, 6, 5, 4, 0, 0), 7), ((2, 3, 1, 6, 5, 4, 0, 2), 7)):
            self.assert_refused(BadOrder, index, branchwise, TREE, order)

    def test_a_joint_ahead_of_a_part(self):
        for order, index in (((0, 1, 2, 3, 4, 5, 6), 0), ((1, 2, 3, 6, 5, 4, 0), 0), ((2, 1, 3, 6, 5, 4, 0), 1),
                             ((3, 1, 2, 6, 5, 4, 0), 1), ((2, 3, 1, 6, 4, 5, 0), 4), ((2, 3, 1, 6, 5, 0, 4), 5),
                             ((6, 5, 4, 0, 2, 3, 1), 3)):
            self.assert_refused(BadOrder, index, branchwise, TREE, order)

    def test_an_order_that_is_too_short(self):
        order = (2, 3, 1, 6, 5, 4, 0)
        for many in range(7):
            self.assert_refused(BadOrder, many, branchwise, TREE, order[:many])
        self.assert_refused(BadOrder, 0, branchwise, row(1), ())
        self.assert_refused(BadOrder, 39, branchwise, chain(40), tuple(range(1, 40))[::-1])

    def test_the_first_fault_is_refused(self):
        self.assert_refused(BadOrder, 1, branchwise, TREE, (2, 7, 2, 0))
        self.assert_refused(BadOrder, 1, branchwise, TREE, (2, 2, 9, -1))
        self.assert_refused(BadOrder, 2, branchwise, TREE, (2, 3, 0, 0, 9))
        self.assert_refused(BadOrder, 2, branchwise, TREE, (2, 6, 1))

    def test_an_order_that_is_not_branchwise_and_wrong_is_refused(self):
        self.assert_refused(BadOrder, 6, branchwise, TREE, (2, 6, 3, 1, 5, 4))
        self.assert_refused(BadOrder, 6, branchwise, TREE, (2, 6, 3, 1, 5, 4, 5))

    def test_sizes_are_not_looked_at(self):
        unequal = read("add([1], [1 2])")
        self.assertIs(True, branchwise(unequal, (1, 2, 0)))
        self.assertIs(True, branchwise(unequal, (2, 1, 0)))
        program = on("add", on("rev", row(1)), on("rev", row(1, 2)))
        self.assertIs(False, branchwise(program, (2, 4, 1, 3, 0)))
        self.assertIs(True, branchwise(program, (4, 3, 2, 1, 0)))
        self.assert_refused(BadOrder, 0, branchwise, unequal, (0, 1, 2))
        self.assert_refused(BadOrder, 2, branchwise, on("cat", given("a", 1), given("a", 2)), (1, 2))

    def test_programs_that_are_none_come_first(self):
        for error, what, thing in NO_PROGRAMS:
            for order in ((), (0,), (5, 5)):
                self.assert_refused(error, what, branchwise, thing, order)

    def test_many_programs(self):
        dice = random.Random(64)
        answers = {True: 0, False: 0}
        for program in random_programs(65, 300, 14):
            for loose in (False, True):
                order = random_order(dice, program, loose)
                answer = branchwise(program, order)
                self.assertIs(stands_side_by_side(program, order), answer)
                answers[answer] += 1
                spoilt = spoil(dice, order)
                fault = first_fault(program, spoilt)
                if fault is not None:
                    self.assert_refused(BadOrder, fault, branchwise, program, spoilt)
        self.assertGreater(min(answers.values()), 50)


if __name__ == "__main__":
    unittest.main()
