"""[16] and [17]: layings in which held values are slid down to make room."""

import unittest

from hillrooms.heights import peak
from hillrooms.orders import first_order
from hillrooms.reader import read
from hillrooms.slides import slid
from tests.lays import programs_and_orders, right_by_word, used_cells
from tests.reckoner import worked_out
from tests.refusals import SizedCase
from tests.runs import heights_by_word
from tests.samples import TREE
from tests.trees import bush, chain, parts_by_number


def slid_by_word(program, order):
    """The laying of [17], by a heap in which each cell tells which joint's value it holds."""
    facts = worked_out(program)
    parts = parts_by_number(program)
    heap = [None] * max(needed for needed, _ in heights_by_word(program, order))
    found = []
    for number in order:
        size, room, _ = facts[number]
        moves = []
        if free_above(heap) < size + room:
            before = list(dict.fromkeys(joint for joint in heap if joint is not None))
            packed = [joint for joint in heap if joint is not None]
            packed += [None] * (len(heap) - len(packed))
            moves = [(joint, packed.index(joint)) for joint in before if packed.index(joint) != heap.index(joint)]
            heap = packed
        place = len(heap) - free_above(heap)
        found.append((number, place, place + size if room else 0, tuple(moves)))
        heap[place:place + size] = [number] * size
        heap = [None if joint in parts[number] else joint for joint in heap]
    return tuple(found)


def free_above(heap):
    many = 0
    while many < len(heap) and heap[-1 - many] is None:
        many += 1
    return many


class SlidTest(SizedCase):

    def check(self, expected, text, order):
        self.assertEqual(expected, slid(read(text), order), text)

    def test_the_example(self):
        self.check(((2, 0, 0, ()), (1, 1, 0, ()), (0, 2, 0, ((1, 0),))), "rep 2(rep 2([1]))", (2, 1, 0))
        self.assertEqual(6, peak(read("rep 2(rep 2([1]))"), (2, 1, 0)))

    def test_one_joint(self):
        self.check(((0, 0, 0, ()),), "in xs 64", (0,))

    def test_a_laying_without_moves(self):
        self.check(((1, 0, 0, ()), (2, 2, 0, ()), (0, 4, 0, ())), "add([1 2], [3 4])", (1, 2, 0))
        self.check(((2, 0, 0, ()), (1, 2, 0, ()), (0, 4, 0, ())), "add([1 2], [3 4])", (2, 1, 0))

    def test_the_room_just_above_the_value(self):
        self.check(((1, 0, 0, ()), (0, 3, 6, ())), "sort([3 1 2])", (1, 0))
        self.check(((1, 0, 0, ()), (2, 2, 0, ()), (0, 4, 5, ())), "dot([1 2], [3 4])", (1, 2, 0))
        self.check(((1, 0, 0, ()), (2, 1, 0, ()), (0, 4, 7, ())), "blend([1], [2 3 4])", (1, 2, 0))

    def test_a_room_of_nothing_is_at_the_place_0(self):
        self.check(((1, 0, 0, ()), (0, 3, 0, ())), "hold 0([3 1 2])", (1, 0))
        self.check(((1, 0, 0, ()), (0, 3, 6, ())), "hold 1([3 1 2])", (1, 0))

    def test_exactly_as_many_free_cells_as_wanted_and_one_less(self):
        # Heaps of 6 cells: above the sum, two cells are free for joint 3, then one.
        self.check(((2, 0, 0, ()), (1, 3, 0, ()), (3, 4, 0, ()), (0, 3, 0, ((1, 0), (3, 1)))),
                   "cat(sum([1 2 3]), [4 5])", (2, 1, 3, 0))
        self.check(((2, 0, 0, ()), (1, 4, 0, ()), (3, 1, 0, ((1, 0),)), (0, 3, 0, ())),
                   "cat(sum([1 2 3 4]), [5 6])", (2, 1, 3, 0))

    def test_the_room_counts_too(self):
        # Heaps of 8 cells: three are free for joint 4, which wants three, then four.
        self.check(((3, 0, 0, ()), (2, 3, 0, ()), (5, 4, 0, ()), (4, 5, 6, ()), (1, 6, 0, ()), (0, 2, 0, ((1, 0),))),
                   "rep 3(cat(sum([1 2 3]), hold 2([4])))", (3, 2, 5, 4, 1, 0))
        self.check(((3, 0, 0, ()), (2, 3, 0, ()), (5, 4, 0, ()), (4, 2, 3, ((2, 0), (5, 1))), (1, 3, 0, ()),
                    (0, 2, 0, ((1, 0),))),
                   "rep 3(cat(sum([1 2 3]), hold 3([4])))", (3, 2, 5, 4, 1, 0))

    def test_several_moves_in_the_order_of_their_places(self):
        self.check(((5, 0, 0, ()), (4, 3, 0, ()), (3, 4, 0, ()), (2, 2, 3, ((4, 0), (3, 1))), (1, 3, 0, ()),
                    (0, 2, 0, ((1, 0),))),
                   "rep 3(cat(hold 3([4]), sum([1 2 3])))", (5, 4, 3, 2, 1, 0))

    def test_values_that_keep_their_places_are_not_moved(self):
        self.check(((1, 0, 0, ()), (3, 1, 0, ()), (2, 6, 0, ()), (4, 2, 0, ((2, 1),)), (0, 4, 0, ())),
                   "cat([9], sum([1 2 3 4 5]), [6 7])", (1, 3, 2, 4, 0))

    def test_gaps_are_left_where_there_are_cells_enough_above(self):
        self.check(((3, 0, 0, ()), (2, 2, 0, ()), (4, 3, 0, ()), (1, 4, 0, ()), (0, 1, 0, ((1, 0),))),
                   "rep 9(add(sum([1 2]), [4]))", (3, 2, 4, 1, 0))

    def test_a_chain(self):
        laying = slid(chain(40), tuple(range(40))[::-1])
        self.assertEqual(((39, 0, 0, ()), (38, 2, 0, ()), (37, 2, 0, ((38, 0),)), (36, 2, 0, ((37, 0),))), laying[:4])
        self.assertEqual((0, 2, 0, ((1, 0),)), laying[-1])

    def test_kinds_and_names_of_arguments(self):
        found = slid(program=TREE, order=(2, 3, 1, 6, 5, 4, 0))
        self.assertEqual(((2, 0, 0, ()), (3, 1, 0, ()), (1, 2, 0, ()), (6, 4, 0, ()), (5, 5, 0, ()),
                          (4, 3, 0, ((1, 0), (5, 2))), (0, 3, 0, ((4, 2),))), found)
        for thing in found + (found, found[5][3], found[5][3][0]):
            self.assertIs(tuple, thing.__class__)

    def test_many_programs_against_the_words(self):
        moved = 0
        for program, order in programs_and_orders(161, 250):
            laying = slid(program, order)
            self.assertEqual(slid_by_word(program, order), laying)
            moved += any(len(moves) > 1 for _, _, _, moves in laying)
        self.assertGreater(moved, 50)

    def test_all_lies_within_the_heap_and_no_two_things_share_a_cell(self):
        for program, order in programs_and_orders(162, 250) + [(bush(40), first_order(bush(40)))]:
            heap = peak(program, order)
            laying = slid(program, order)
            self.assertTrue(right_by_word(program, order, heap, laying))
            self.assertEqual(heap, used_cells(program, laying))
            self.assert_places_change(laying)

    def assert_places_change(self, laying):
        places = {}
        for number, place, _, moves in laying:
            for joint, goal in moves:
                self.assertNotEqual(goal, places[joint])
                places[joint] = goal
            places[number] = place

    def test_refusals(self):
        self.assert_orders_refused(slid)


if __name__ == "__main__":
    unittest.main()
