"""[10]: the row of a run."""

import unittest

from hillrooms.errors import BadRow
from hillrooms.hills import hills
from tests.runs import hills_by_word, random_runs
from tests.trees import NO_TRIPLES, Case

BIG = 10 ** 20

# Things of many kinds that are no triples of two numbers from 0 on and a tuple.
NO_ENTRIES = NO_TRIPLES + (
    (1, 2), (1,), (3, 1, (5,), ()), (-1, 0, ()), (0, -1, ()), (-BIG, BIG, ()), (3, -BIG, ()),
    (3, 1, None), (3, 1, 5), (3, 1, "5"), (3, 1, ""), (None, 1, ()), (3, None, ()), ("3", 1, ()), (3, "1", ()),
    ((3,), 1, ()), (3, (1,), ()), ((3, 1), ()), ((), 3, 1), ((3, 1, ()),),
)


def all_steps(run):
    return [step for _, _, steps in run for step in steps]


class HillsTest(Case):

    def test_the_example(self):
        self.assertEqual(((3, 2, (5, 6, 7)),), hills(((3, 1, (5,)), (3, 2, (6,)), (2, 2, (7,)))))

    def test_nothing(self):
        self.assertEqual((), hills(()))

    def test_one_triple(self):
        self.assertEqual(((0, 0, ()),), hills(((0, 0, ()),)))
        self.assertEqual(((7, 4, (1, "two", None, (3,))),), hills(((7, 4, (1, "two", None, (3,))),)))
        self.assertEqual(((4, 7, (1,)),), hills(((4, 7, (1,)),)))

    def test_hills_that_fall_over_valleys_that_rise_stay(self):
        row = ((9, 0, (1,)), (8, 2, (2,)), (5, 3, (3,)), (4, 4, (4,)))
        self.assertEqual(row, hills(row))

    def test_a_greater_hill_takes_all_before_it(self):
        self.assertEqual(((9, 5, (1, 2, 3)),), hills(((3, 0, (1,)), (8, 1, (2,)), (9, 5, (3,)))))
        self.assertEqual(((9, 5, (1, 2)), (8, 6, (3,))), hills(((3, 0, (1,)), (9, 5, (2,)), (8, 6, (3,)))))

    def test_a_lower_valley_takes_all_before_it_down_to_the_hill(self):
        self.assertEqual(((9, 1, (1, 2, 3)),), hills(((9, 5, (1,)), (8, 3, (2,)), (7, 1, (3,)))))
        self.assertEqual(((9, 1, (1,)), (8, 2, (2, 3))), hills(((9, 1, (1,)), (8, 3, (2,)), (7, 2, (3,)))))

    def test_a_valley_ahead_of_the_greatest_hill_is_not_looked_at(self):
        self.assertEqual(((9, 4, (1, 2)), (6, 5, (3,))), hills(((2, 0, (1,)), (9, 4, (2,)), (6, 5, (3,)))))

    def test_equal_greatest_needed_at_several_places(self):
        # The last one counts: valleys between them are not looked at.
        self.assertEqual(((9, 6, (1, 2, 3)), (7, 7, (4,))),
                         hills(((9, 1, (1,)), (9, 2, (2,)), (9, 6, (3,)), (7, 7, (4,)))))
        self.assertEqual(((9, 4, (1, 2, 3, 4)), (6, 6, (5,))),
                         hills(((9, 1, (1,)), (5, 0, (2,)), (9, 8, (3,)), (8, 4, (4,)), (6, 6, (5,)))))

    def test_equal_least_held_at_several_places(self):
        # The segment goes up to the last one.
        self.assertEqual(((9, 2, (1, 2, 3)), (5, 3, (4,))),
                         hills(((9, 2, (1,)), (8, 4, (2,)), (6, 2, (3,)), (5, 3, (4,)))))
        self.assertEqual(((9, 2, (1, 2, 3)),), hills(((9, 2, (1,)), (8, 2, (2,)), (6, 2, (3,)))))

    def test_equal_hills_and_valleys_further_on(self):
        self.assertEqual(((9, 1, (1,)), (5, 3, (2, 3, 4, 5)), (4, 4, (6,))),
                         hills(((9, 1, (1,)), (5, 2, (2,)), (5, 3, (3,)), (4, 4, (4,)), (3, 3, (5,)), (4, 4, (6,)))))

    def test_needed_below_held(self):
        self.assertEqual(((9, 4, (1, 2, 3)),), hills(((1, 8, (1,)), (9, 20, (2,)), (3, 4, (3,)))))
        self.assertEqual(((5, 7, (1,)), (4, 8, (2,)), (0, 9, (3,))), hills(((5, 7, (1,)), (4, 8, (2,)), (0, 9, (3,)))))

    def test_great_numbers(self):
        run = ((BIG, BIG - 1, (1,)), (BIG + 1, 0, (2,)), (BIG, BIG - 2, (3,)), (BIG, BIG, (4,)), (BIG - 1, BIG, (5,)))
        self.assertEqual(((BIG + 1, 0, (1, 2)), (BIG, BIG, (3, 4, 5))), hills(run))
        self.assertEqual(((BIG, 5, (1,)), (BIG - 1, 6, (2,))), hills(((BIG, 5, (1,)), (BIG - 1, 6, (2,)))))

    def test_steps_of_any_kind_and_number_stand_in_order(self):
        run = ((4, 0, ()), (5, 3, ("a", None)), (5, 1, ((2,),)), (3, 2, ()), (3, 2, (7, 7, 7)))
        self.assertEqual(((5, 1, ("a", None, (2,))), (3, 2, (7, 7, 7))), hills(run))

    def test_kinds_and_names_of_arguments(self):
        found = hills(run=((9, 1, (1,)), (5, 3, ())))
        self.assertEqual(((9, 1, (1,)), (5, 3, ())), found)
        for thing in (found, found[0], found[1], found[0][2], found[1][2]):
            self.assertIs(tuple, thing.__class__)

    def test_many_runs_against_the_words(self):
        runs = random_runs(101, 1500, 9, 6) + random_runs(102, 500, 40, 30) + random_runs(103, 300, 12, BIG)
        for run in runs:
            row = hills(run)
            self.assertEqual(hills_by_word(run), row)
            self.assertEqual(row, hills(row))
            self.assertEqual(all_steps(run), all_steps(row))
            for before, behind in zip(row, row[1:]):
                self.assertGreater(before[0], behind[0])
                self.assertLess(before[1], behind[1])
            if run:
                self.assertEqual(run[-1][1], row[-1][1])

    def test_a_long_run(self):
        falling = tuple((20000 - index, index, (index,)) for index in range(9000))
        self.assertEqual(falling, hills(falling))
        climbing = tuple((index, index, (index,)) for index in range(9000))
        self.assertEqual(((8999, 8999, tuple(range(9000))),), hills(climbing))

    def test_entries_that_are_none(self):
        for thing in NO_ENTRIES:
            self.assert_refused(BadRow, 0, hills, (thing,))
            for index in (0, 1, 2):
                run = ((9, 1, (1,)), (5, 3, (2,)))
                self.assert_refused(BadRow, index, hills, run[:index] + (thing,) + run[index:])

    def test_the_first_of_several_that_are_none(self):
        self.assert_refused(BadRow, 1, hills, ((9, 1, (1,)), None, (5, 3, (2,)), (5, -3, ())))
        self.assert_refused(BadRow, 1, hills, ((9, 1, (1,)), (5, -3, ()), (5, 3, (2,)), None))
        self.assert_refused(BadRow, 0, hills, ((5, 3), (5, 3)))
        self.assert_refused(BadRow, 2, hills, ((9, 1, ()), (5, 3, ()), (5, 3), ()))


if __name__ == "__main__":
    unittest.main()
