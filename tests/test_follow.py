"""[11]: whether one row may run in the place of another."""

import random
import unittest
from itertools import product

from hillrooms.follow import follows
from hillrooms.hills import hills
from tests.runs import follows_by_trying, pairs, random_run
from tests.trees import NO_TRIPLES, Case, deep

BIG = 10 ** 20

# Things that are no segments; some of them, as tuples, might be rows.
NO_SEGMENTS = tuple(thing for thing in NO_TRIPLES if not isinstance(thing, tuple) or len(thing) != 3) + (
    (1,), (), (3, 1, (), ()), (3, 1, 0, 0, 0), (-1, 0), (0, -1), (3, -BIG), (-BIG, 3, ()), (3, -1, (5,)),
    (None, 1), (3, None), ("3", 1), (3, "1"), ((3,), 1), (3, (1,)), ((), (), ()), ("row", (1,), ()), ("", "", ""),
    (None, None, None), deep(90), "31", "312",
)


class FollowsTest(Case):

    def check(self, expected, one, two):
        self.assertIs(expected, follows(one, two), (one, two))

    def test_the_examples(self):
        self.check(True, ((3, 2),), ((9, 1), (5, 3)))
        self.check(True, ((2, 1),), ((9, 3),))
        self.check(False, ((9, 3),), ((2, 1),))

    def test_nothing(self):
        self.check(True, (), ())
        for row in (((0, 0),), ((9, 1), (5, 3)), ((3, 2, (1,)),), ((0, 0), (0, 0), (0, 0))):
            self.check(True, (), row)
            self.check(False, row, ())

    def test_a_row_follows_itself(self):
        for row in (((0, 0),), ((9, 1), (5, 3)), ((3, 8), (9, 0), (2, 2))):
            self.check(True, row, row)

    def test_hills(self):
        self.check(True, ((5, 3),), ((5, 3),))
        self.check(False, ((6, 3),), ((5, 3),))
        self.check(True, ((5, 1), (4, 3)), ((5, 3),))
        self.check(False, ((4, 1), (6, 3)), ((5, 3),))
        self.check(False, ((9, 1), (6, 3)), ((9, 1), (5, 3)))
        self.check(True, ((9, 1), (6, 3)), ((9, 3), (5, 3)))

    def test_valleys(self):
        self.check(True, ((5, 3),), ((5, 4),))
        self.check(False, ((5, 4),), ((5, 3),))
        # One may stop only where it holds little, and go on only under a high hill.
        self.check(False, ((9, 2), (5, 3)), ((9, 1), (5, 3)))
        self.check(True, ((9, 1), (5, 3)), ((9, 2), (5, 3)))
        self.check(False, ((9, 4), (5, 3)), ((9, 2), (5, 3)))

    def test_valleys_between_the_cuts_are_not_looked_at(self):
        self.check(True, ((5, 90), (5, 1)), ((5, 1),))
        self.check(True, ((4, 3), (4, 90), (4, 80), (4, 2)), ((5, 2),))
        self.check(False, ((4, 3), (4, 90), (4, 80)), ((5, 2),))

    def test_nothing_may_be_run_under_a_hill(self):
        self.check(True, ((3, 2),), ((9, 0), (5, 0), (1, 0), (3, 2)))
        self.check(True, ((3, 2),), ((3, 2), (0, 2)))
        self.check(False, ((3, 2),), ((3, 2), (0, 1)))
        self.check(False, ((3, 2),), ((1, 1), (2, 2), (1, 3)))

    def test_going_as_far_as_may_be_is_not_always_right(self):
        # Behind both segments too much is held for the second valley, behind the first it is not.
        self.check(True, ((3, 0), (3, 5)), ((3, 5), (3, 0), (3, 5)))
        self.check(False, ((3, 1), (3, 5)), ((3, 5), (3, 0), (2, 5)))
        self.check(True, ((9, 0), (3, 5)), ((9, 5), (3, 0), (3, 5)))
        self.check(False, ((9, 1), (3, 5)), ((9, 5), (3, 0), (3, 5)))

    def test_pairs_beside_triples(self):
        one = ((9, 1), (5, 3))
        two = ((9, 2), (5, 4))
        for thing in (None, (), (1, 2), "x", 7, -7, deep(90)):
            for first, second in product((one, one[:1] + ((5, 3, thing),), ((9, 1, thing), (5, 3, ()))),
                                         (two, two[:1] + ((5, 4, thing),), ((9, 2, thing), (5, 4, None)))):
                self.check(True, first, second)
                self.check(False, second, first)

    def test_great_numbers(self):
        self.check(True, ((BIG, BIG - 1),), ((BIG, BIG - 1),))
        self.check(False, ((BIG, BIG - 1),), ((BIG, BIG - 2),))
        self.check(False, ((BIG, BIG - 1),), ((BIG - 1, BIG - 1),))

    def test_rows_need_not_be_those_of_hills_nor_end_alike(self):
        self.check(True, ((1, 5), (2, 4), (3, 3)), ((3, 4), (2, 9)))
        self.check(True, ((9, 0),), ((9, 1), (1, 70)))

    def test_things_that_are_no_rows(self):
        for thing in NO_TRIPLES:
            if thing != ():
                self.check(False, thing, ((9, 1),))
                self.check(False, (), thing)
                self.check(False, thing, thing)
        for thing in ([(9, 1)], None, 0, 9, "", "91", {}):
            self.check(False, thing, ((9, 1),))
            self.check(False, (), thing)
            self.check(False, thing, thing)

    def test_things_that_are_no_segments(self):
        for thing in NO_SEGMENTS:
            for row in ((thing,), ((0, 0), thing), (thing, (0, 0)), ((0, 0), thing, (0, 0))):
                self.check(False, row, ((9, 1),))
                self.check(False, (), row)
                self.check(False, ((0, 0),), row)
                self.check(False, row, row)
                self.check(False, row, None)

    def test_names_of_arguments(self):
        self.assertIs(True, follows(one=((2, 1),), two=((9, 3),)))
        self.assertIs(False, follows(two=((2, 1),), one=((9, 3),)))

    def test_long_rows(self):
        one = tuple((9, index) for index in range(800))
        self.check(True, one, one)
        self.check(True, one, tuple((9, index + 1) for index in range(800)))
        self.check(False, one + ((9, 999),), one)
        self.check(False, ((10, 0),) + one, one)

    def test_all_small_rows_against_all_ways_to_cut(self):
        segments = tuple(product((1, 2), (0, 1)))
        rows = [row for many in range(4) for row in product(segments, repeat=many)]
        for one in rows:
            for two in rows:
                self.assertIs(follows_by_trying(one, two), follows(one, two), (one, two))

    def test_many_rows_against_all_ways_to_cut(self):
        dice = random.Random(111)
        answers = {True: 0, False: 0}
        for _ in range(2500):
            one, two = random_run(dice, 5, 9), random_run(dice, 4, 13)
            if dice.random() < 0.5:
                one, two = hills(one), hills(two)
            if dice.random() < 0.5:
                two = pairs(two)
            answer = follows(one, two)
            self.assertIs(follows_by_trying(one, two), answer, (one, two))
            answers[answer] += 1
        self.assertGreater(min(answers.values()), 500)


if __name__ == "__main__":
    unittest.main()
