"""[16] and [20]: layings judged."""

import random
import unittest

from hillrooms.heights import peak
from hillrooms.layings import laying_right
from hillrooms.orders import first_order
from hillrooms.pools import pool_heap, pools
from hillrooms.reader import read
from hillrooms.slides import slid
from hillrooms.stacks import stacked
from tests.lays import (
    programs_and_branch_orders, programs_and_orders, right_by_word, spoilt_laying, used_cells, with_step,
)
from tests.refusals import NO_ORDERS, NO_PROGRAMS, NO_SIZES
from tests.samples import TREE
from tests.trees import NO_TRIPLES, Case, bush, chain, deep, on, row

SORT = read("sort([3 1 2])")
SORT_LAYING = ((1, 0, 0, ()), (0, 3, 6, ()))
REPS = read("rep 2(rep 2([1]))")
REPS_LAYING = ((2, 0, 0, ()), (1, 1, 0, ()), (0, 2, 0, ((1, 0),)))
# Values of 2, 3 and 5 cells.
PAIR = read("cat([1 2], [3 4 5])")

# Things of many kinds, none of them a number from 0 on, a laying, a step or a move.
ODD = (None, "", "0", "xs", (), (0,), (None,), ("", ""), ((0, 0),), -1, -(10 ** 30), deep(90), (0,) * 9000)


def layings(seed, how_many):
    """Quadruples (program, order, heap, laying) of all three ways."""
    found = []
    for program, order in programs_and_orders(seed, how_many):
        found.append((program, order, peak(program, order), slid(program, order)))
        found.append((program, order, pool_heap(program, order), pools(program, order)))
    for program, order in programs_and_branch_orders(seed, how_many):
        found.append((program, order, peak(program, order), stacked(program, order)))
    return found


class RightTest(Case):

    def check(self, expected, *things):
        self.assertIs(expected, laying_right(*things), things)

    def test_layings_of_all_ways_in_their_heaps_and_in_greater_ones(self):
        for program, order, heap, laying in layings(201, 120):
            for more in (0, 1, 7, 10 ** 30):
                self.check(True, program, order, heap + more, laying)

    def test_a_heap_of_one_cell_less(self):
        for program, order, heap, laying in layings(202, 120):
            self.assertEqual(heap, used_cells(program, laying))
            self.check(False, program, order, heap - 1, laying)
            self.check(False, program, order, 0, laying)

    def test_names_of_arguments(self):
        self.assertIs(True, laying_right(program=SORT, order=(1, 0), heap=9, laying=SORT_LAYING))

    def test_the_largest_programs(self):
        for program in (bush(40), chain(40)):
            order = first_order(program)
            self.check(True, program, order, peak(program, order), slid(program, order))
            self.check(True, program, order, pool_heap(program, order), pools(program, order))

    def test_a_place_changed(self):
        for place in range(-4, 12):
            # The part has the cells 0 to 2, the room 6 to 8.
            self.check(place == 3, SORT, (1, 0), 9, ((1, 0, 0, ()), (0, place, 6, ())))
            self.check(place in (3, 9), SORT, (1, 0), 12, ((1, 0, 0, ()), (0, place, 6, ())))
            self.check(place == 0, SORT, (1, 0), 9, ((1, place, 0, ()), (0, 3, 6, ())))
            self.check(place in (0, 9), SORT, (1, 0), 12, ((1, place, 0, ()), (0, 3, 6, ())))

    def test_a_rooms_place_changed(self):
        for place in range(-4, 12):
            self.check(place == 6, SORT, (1, 0), 9, ((1, 0, 0, ()), (0, 3, place, ())))
            self.check(place in (6, 7, 8, 9), SORT, (1, 0), 12, ((1, 0, 0, ()), (0, 3, place, ())))
            # Between the part and the value six cells are free.
            self.check(3 <= place <= 6, SORT, (1, 0), 12, ((1, 0, 0, ()), (0, 9, place, ())))

    def test_a_room_of_0_is_at_the_place_0(self):
        program = read("hold 0([3 1 2])")
        for place in (-1, 1, 3, 6, 7, 100, 10 ** 30, None, "0", (0,)):
            self.check(place == 0, program, (1, 0), 20, ((1, 0, 0, ()), (0, 3, place, ())))
            self.check(place == 0, program, (1, 0), 20, ((1, 0, place, ()), (0, 3, 0, ())))
        self.check(True, program, (1, 0), 20, ((1, 0, 0, ()), (0, 3, 0, ())))
        # It has no cells, so a value may lie there.
        self.check(True, program, (1, 0), 6, ((1, 3, 0, ()), (0, 0, 0, ())))

    def test_values_that_wait_are_in_the_way(self):
        for place in range(8):
            self.check(place >= 2, PAIR, (1, 2, 0), 16, ((1, 0, 0, ()), (2, place, 0, ()), (0, 11, 0, ())))
            self.check(place >= 3, PAIR, (2, 1, 0), 16, ((2, 0, 0, ()), (1, place, 0, ()), (0, 11, 0, ())))

    def test_parts_lie_there_at_their_joints_step_and_not_behind_it(self):
        program = read("rev(rev([1 2]))")
        for place in range(8):
            self.check(place >= 2, program, (2, 1, 0), 16, ((2, 0, 0, ()), (1, place, 0, ()), (0, 10, 0, ())))
            # Joint 2, in the cells 5 and 6, is gone when joint 0 is made.
            laying = ((2, 5, 0, ()), (1, 2, 0, ()), (0, place, 0, ()))
            self.check(place not in (1, 2, 3), program, (2, 1, 0), 16, laying)

    def test_moves(self):
        # Joint 1 of PAIR, in two cells, moves once joint 2 lies in the cells 4 to 6.
        for goal in range(-2, 14):
            laying = ((1, 0, 0, ()), (2, 4, 0, ()), (0, 12, 0, ((1, goal),)))
            self.check(goal in (0, 1, 2, 7, 8, 9, 10), PAIR, (1, 2, 0), 17, laying)
            laying = ((1, 0, 0, ()), (2, 4, 0, ()), (0, 7, 0, ((1, goal),)))
            self.check(goal in (0, 1, 2), PAIR, (1, 2, 0), 12, laying)

    def test_moves_over_own_cells(self):
        program = read("cat([1 2 3 4], [5])")
        for goal in range(8):
            laying = ((1, 3, 0, ()), (2, 12, 0, ((1, goal),)), (0, 13, 0, ()))
            self.check(True, program, (1, 2, 0), 18, laying)

    def test_moves_one_after_the_other(self):
        order = (1, 2, 0)
        ahead = ((1, 0, 0, ()), (2, 2, 0, ()))
        # Two values change places by way of free cells.
        self.check(True, PAIR, order, 15, ahead + ((0, 5, 0, ((1, 5), (2, 0), (1, 3))),))
        self.check(True, PAIR, order, 15, ahead + ((0, 5, 0, ((1, 10), (2, 0), (1, 3))),))
        # Joint 2 would lie over joint 1, though joint 1 leaves at once.
        self.check(False, PAIR, order, 15, ahead + ((0, 5, 0, ((2, 0), (1, 3))),))
        self.check(False, PAIR, order, 15, ahead + ((0, 5, 0, ((1, 5), (2, 0))),))
        self.check(True, PAIR, order, 15, ahead + ((0, 7, 0, ((1, 5), (2, 0))),))

    def test_an_overlap_in_between(self):
        order = (1, 2, 0)
        ahead = ((1, 0, 0, ()), (2, 2, 0, ()))
        for between in range(-3, 14):
            # Cells 2 to 4 are joint 2's; the end is right whatever lies between.
            laying = ahead + ((0, 5, 0, ((1, between), (1, 0))),)
            self.check(between == 0 or 5 <= between <= 13, PAIR, order, 15, laying)

    def test_a_value_that_is_not_held(self):
        order = (1, 2, 0)
        for joint in (0, 2, 3, -1, 10 ** 30):
            self.check(False, PAIR, order, 20, ((1, 0, 0, ()), (2, 2, 0, ((joint, 12),)), (0, 5, 0, ())))
        self.check(False, PAIR, order, 20, ((1, 0, 0, ((1, 0),)), (2, 2, 0, ()), (0, 5, 0, ())))
        self.check(False, PAIR, order, 20, ((1, 0, 0, ()), (2, 2, 0, ((2, 2),)), (0, 5, 0, ())))
        self.check(False, PAIR, order, 20, ((1, 0, 0, ()), (2, 2, 0, ()), (0, 5, 0, ((0, 5),))))
        # Joint 2 is used up when joint 0 is made.
        self.check(False, REPS, (2, 1, 0), 20, ((2, 0, 0, ()), (1, 1, 0, ()), (0, 3, 0, ((2, 0),))))
        self.check(True, REPS, (2, 1, 0), 20, ((2, 0, 0, ()), (1, 1, 0, ((2, 0),)), (0, 3, 0, ())))

    def test_moved_values_stay_where_they_were_moved(self):
        program = read("cat([1 2], [3], [4])")
        ahead = ((1, 0, 0, ()), (2, 4, 0, ((1, 2),)))
        for place in range(6):
            self.check(place in (0, 1, 5), program, (1, 2, 3, 0), 20, ahead + ((3, place, 0, ()), (0, 10, 0, ())))

    def test_moves_make_way_for_the_value_and_for_the_room(self):
        program = read("cat([7], sort([3 1 2]))")
        order = (1, 3, 2, 0)
        laying = ((1, 3, 0, ()), (3, 0, 0, ()), (2, 3, 6, ((1, 9),)), (0, 3, 0, ((2, 0),)))
        self.check(True, program, order, 10, laying)
        self.check(False, program, order, 10, with_step(laying, 2, (2, 3, 6, ())))
        for goal in range(3, 9):
            self.check(False, program, order, 10, with_step(laying, 2, (2, 3, 6, ((1, goal),))))

    def test_steps_exchanged_too_few_and_too_many(self):
        self.check(True, REPS, (2, 1, 0), 9, REPS_LAYING)
        self.check(False, REPS, (2, 1, 0), 9, REPS_LAYING[::-1])
        self.check(False, REPS, (2, 1, 0), 9, (REPS_LAYING[1], REPS_LAYING[0], REPS_LAYING[2]))
        for many in range(3):
            self.check(False, REPS, (2, 1, 0), 9, REPS_LAYING[:many])
            self.check(False, REPS, (2, 1, 0), 20, REPS_LAYING + (REPS_LAYING[many],))
            self.check(False, REPS, (2, 1, 0), 20, REPS_LAYING[:many] + REPS_LAYING[many + 1:])
        self.check(False, REPS, (2, 1, 0), 20, REPS_LAYING * 1000)
        # The step of another joint of the same size.
        self.check(True, TREE, (2, 3, 1, 6, 5, 4, 0), 20, pools(TREE, (2, 3, 1, 6, 5, 4, 0)))
        self.check(False, TREE, (3, 2, 1, 6, 5, 4, 0), 20, pools(TREE, (2, 3, 1, 6, 5, 4, 0)))

    def test_spoilt_layings_against_the_words(self):
        dice = random.Random(203)
        answers = {True: 0, False: 0}
        for program, order, heap, laying in layings(204, 100) + layings(205, 100):
            for more in (0, dice.randint(0, 9)):
                spoilt = spoilt_laying(dice, laying, heap + more)
                expected = right_by_word(program, order, heap + more, spoilt)
                self.check(expected, program, order, heap + more, spoilt)
                answers[expected] += 1
        self.assertGreater(min(answers.values()), 200)

    def test_all_small_layings_against_the_words(self):
        program = read("cat([1], hold 1([2]))")
        order = (1, 3, 2, 0)
        answers = {True: 0, False: 0}
        dice = random.Random(206)
        for _ in range(4000):
            laying = tuple((joint, dice.randrange(6), dice.randrange(6) if joint == 2 else 0,
                            tuple((dice.randrange(4), dice.randrange(6)) for _ in range(dice.choice((0, 0, 0, 1)))))
                           for joint in order)
            expected = right_by_word(program, order, 6, laying)
            self.check(expected, program, order, 6, laying)
            answers[expected] += 1
        self.assertGreater(min(answers.values()), 50)


class OddThingsTest(Case):

    def check_false(self, *things):
        self.assertIs(False, laying_right(*things), things)

    def test_things_of_any_kind_in_the_place_of_each_argument(self):
        for thing in ODD + NO_TRIPLES:
            self.check_false(thing, (1, 0), 9, SORT_LAYING)
            self.check_false(SORT, thing, 9, SORT_LAYING)
            self.check_false(SORT, (1, 0), 9, thing)
            self.check_false(thing, thing, thing, thing)
        for thing in ODD + ("9", (9,)):
            self.check_false(SORT, (1, 0), thing, SORT_LAYING)

    def test_heaps(self):
        for heap in (-1, -9, -(10 ** 30), None, "", "9", (), (9,)):
            self.check_false(SORT, (1, 0), heap, SORT_LAYING)
        self.check_false(row(1), (0,), 0, ((0, 0, 0, ()),))
        self.assertIs(True, laying_right(row(1), (0,), 1, ((0, 0, 0, ()),)))

    def test_things_of_any_kind_in_the_place_of_a_step(self):
        for thing in ODD + ((0, 3, 6), (0, 3, 6, (), ()), "sort", ("", "", "", "")):
            self.check_false(SORT, (1, 0), 9, (SORT_LAYING[0], thing))
            self.check_false(SORT, (1, 0), 9, (thing, SORT_LAYING[1]))

    def test_things_of_any_kind_in_each_place_of_a_step(self):
        for thing in ODD + (1, 10 ** 30):
            for index in range(2):
                step = SORT_LAYING[index]
                for place in range(4):
                    spoilt = step[:place] + (thing,) + step[place + 1:]
                    if spoilt != step:
                        self.check_false(SORT, (1, 0), 9, with_step(SORT_LAYING, index, spoilt))

    def test_things_of_any_kind_in_the_place_of_moves(self):
        for thing in (None, "", "moves", 0, 1, -1):
            self.check_false(REPS, (2, 1, 0), 20, with_step(REPS_LAYING, 1, (1, 1, 0, thing)))
        for thing in ODD + ((2,), (2, 0, 0), "20", ("2", 0), (2, "0"), (None, 0), (2, None), ((2,), 0), (2, (0,)),
                            (2, -1), (2, 20), (2, 10 ** 30), (deep(90), 0), (2, deep(90))):
            self.check_false(REPS, (2, 1, 0), 20, with_step(REPS_LAYING, 1, (1, 1, 0, (thing,))))
            self.check_false(REPS, (2, 1, 0), 20, with_step(REPS_LAYING, 1, (1, 1, 0, ((2, 0), thing))))
            self.check_false(REPS, (2, 1, 0), 20, with_step(REPS_LAYING, 1, (1, 1, 0, (thing, (2, 0)))))

    def test_programs_that_are_refused(self):
        for _, _, thing in NO_PROGRAMS + NO_SIZES:
            self.check_false(thing, (1, 0), 9, SORT_LAYING)
            self.check_false(on("rev", thing), (1, 0), 9, SORT_LAYING)
        # Ordinary but for their sizes.
        self.check_false(read("add([1], [1 2])"), (1, 2, 0), 99, ((1, 0, 0, ()), (2, 5, 0, ()), (0, 9, 0, ())))
        self.check_false(read("cat(in a 1, in a 2)"), (1, 2, 0), 99, ((1, 0, 0, ()), (2, 5, 0, ()), (0, 9, 0, ())))
        self.check_false(read("rep 2(in a 40)"), (1, 0), 999, ((1, 0, 0, ()), (0, 90, 0, ())))

    def test_no_orders(self):
        for order, _ in NO_ORDERS:
            laying = tuple((joint, 10 * index, 0, ()) for index, joint in enumerate(order))
            self.check_false(TREE, order, 999, laying)
        laying = ((1, 0, 0, ()), (2, 5, 0, ()), (0, 9, 0, ()))
        self.assertIs(True, laying_right(PAIR, (1, 2, 0), 99, laying))
        self.check_false(PAIR, (2, 1, 0), 99, laying)
        for order in ((0, 1, 2), (1, 0, 2), (1, 2), (1, 2, 0, 0), ((1,), 2, 0), ("1", 2, 0), (1, None, 0)):
            self.check_false(PAIR, order, 99, laying)
            self.check_false(PAIR, order, 99, tuple((joint,) + step[1:] for joint, step in zip(order, laying)))

    def test_many_moves(self):
        moves = ((1, 5), (1, 0)) * 1500
        self.assertIs(True, laying_right(PAIR, (1, 2, 0), 99, ((1, 0, 0, ()), (2, 2, 0, moves), (0, 9, 0, ()))))
        self.check_false(PAIR, (1, 2, 0), 99, ((1, 0, 0, ()), (2, 2, 0, moves + ((2, 9),)), (0, 9, 0, ())))
        self.check_false(PAIR, (1, 2, 0), 99, ((1, 0, 0, ()), (2, 2, 0, ((1, 5),) + moves + ((1, 98),)), (0, 9, 0, ())))


if __name__ == "__main__":
    unittest.main()
