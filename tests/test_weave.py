"""[12]: rows put together into one row."""

import copy
import random
import unittest

from hillrooms.follow import follows
from hillrooms.hills import hills
from hillrooms.weave import weave
from tests.runs import all_turns, put_behind, random_run, weave_by_word

ONE = ((36, 1, (0,)), (18, 6, (1,)))
TWO = ((34, 1, (2,)), (17, 5, (3,)))


def random_rows(dice, most_rows, most_entries, highest):
    """Rows as hills or weave return them, each with steps of its own."""
    rows = []
    for index in range(dice.randint(0, most_rows)):
        run = random_run(dice, most_entries, highest)
        row = hills(tuple((needed, held, ((index, place),)) for place, (needed, held, _) in enumerate(run)))
        rows.append(row if dice.random() < 0.7 else weave((row, hills(random_run(dice, 2, highest)))))
    return tuple(rows)


class WeaveTest(unittest.TestCase):

    def test_the_example(self):
        self.assertEqual(((36, 1, (0,)), (35, 2, (2,)), (19, 7, (1,)), (23, 11, (3,))), weave((ONE, TWO)))

    def test_no_row_and_empty_rows(self):
        self.assertEqual((), weave(()))
        self.assertEqual((), weave(((),)))
        self.assertEqual((), weave(((), (), ())))

    def test_one_row_stays(self):
        self.assertEqual(ONE, weave((ONE,)))
        self.assertEqual(((4, 7, ()),), weave((((4, 7, ()),),)))

    def test_empty_rows_between_others(self):
        self.assertEqual(weave((ONE, TWO)), weave(((), ONE, (), (), TWO, ())))

    def test_the_greatest_fall_first_whichever_row_it_stands_in(self):
        self.assertEqual(((36, 1, (0,)), (35, 2, (2,)), (18, 6, (3,)), (23, 11, (1,))), weave((TWO, ONE)))
        rows = (((9, 3, (1,)),), ((20, 1, (2,)), (7, 2, (3,))), ((12, 5, (4,)),))
        # Falls: 6; 19 and 5; 7.
        self.assertEqual(((20, 1, (2,)), (13, 6, (4,)), (15, 9, (1,)), (15, 10, (3,))), weave(rows))

    def test_the_fall_is_told_from_the_segments_own_beginning(self):
        # Hill and valley of the second segment are 10 and 2 from its own beginning on.
        self.assertEqual(((50, 10, ("a",)), (20, 12, ("b",)), (20, 13, ("c",))),
                         weave((((50, 10, ("a",)), (20, 12, ("b",))), ((8, 1, ("c",)),))))

    def test_equal_falls_in_several_rows(self):
        rows = (((5, 2, (1,)),), ((4, 1, (2,)),), ((7, 4, (3,)),))
        self.assertEqual(((5, 2, (1,)), (6, 3, (2,)), (10, 7, (3,))), weave(rows))
        self.assertEqual(((7, 4, (3,)), (8, 5, (2,)), (10, 7, (1,))), weave(rows[::-1]))

    def test_equal_falls_in_one_row(self):
        row = weave((((5, 2, (1,)),), ((4, 1, (2,)),)))
        self.assertEqual(((5, 2, (1,)), (6, 3, (2,))), row)
        self.assertEqual(((5, 2, (1,)), (6, 3, (2,)), (7, 4, (3,))), weave((row, ((4, 1, (3,)),))))
        self.assertEqual(((4, 1, (3,)), (6, 3, (1,)), (7, 4, (2,))), weave((((4, 1, (3,)),), row)))

    def test_what_weave_tells_woven_again(self):
        row = weave((ONE, TWO))
        self.assertEqual(row, weave((row,)))
        third = ((33, 0, (4,)), (12, 3, (5,)))
        self.assertEqual(weave((ONE, TWO, third)), weave((row, third)))

    def test_valleys_of_nothing(self):
        self.assertEqual(((3, 0, (1,)), (3, 0, (2,)), (3, 2, (3,))),
                         weave((((3, 0, (1,)),), ((3, 0, (2,)), (3, 2, (3,))))))

    def test_needed_below_held(self):
        self.assertEqual(((6, 2, (2,)), (3, 9, (1,))), weave((((1, 7, (1,)),), ((6, 2, (2,)),))))

    def test_great_numbers(self):
        big = 10 ** 20
        self.assertEqual(((big + 1, 1, (2,)), (big + 1, 3, (1,))), weave((((big, 2, (1,)),), ((big + 1, 1, (2,)),))))

    def test_steps_of_any_kind_stay_with_their_segments(self):
        self.assertEqual(((9, 1, ("b", None)), (4, 2, ()), (4, 3, ((1,), 7))),
                         weave((((3, 1, ()),), ((9, 1, ("b", None)), (3, 2, ((1,), 7))))))

    def test_rows_handed_in_stay_as_they_were(self):
        rows = (ONE, (), TWO)
        before = copy.deepcopy(rows)
        weave(rows)
        self.assertEqual(before, rows)

    def test_kinds_and_names_of_arguments(self):
        found = weave(rows=(TWO, ONE))
        self.assertEqual({tuple}, {found.__class__} | {segment.__class__ for segment in found})
        self.assertEqual({3}, {len(segment) for segment in found})

    def test_many_rows_against_the_words(self):
        dice = random.Random(121)
        for _ in range(800):
            rows = random_rows(dice, 6, 9, dice.choice((4, 12, 40)))
            self.assertEqual(weave_by_word(rows), weave(rows))

    def test_the_row_follows_each_other_way_to_put_the_segments_together(self):
        dice = random.Random(122)
        ways = 0
        for _ in range(600):
            rows = random_rows(dice, 3, 4, dice.choice((4, 12)))
            if sum(len(row) for row in rows) > 7:
                continue
            woven = weave(rows)
            for turns in all_turns(tuple(len(row) for row in rows)):
                other = put_behind(rows, turns)
                self.assertIs(True, follows(woven, other), (rows, other))
                ways += 1
        self.assertGreater(ways, 2000)


if __name__ == "__main__":
    unittest.main()
