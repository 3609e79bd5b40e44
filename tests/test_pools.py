"""[19]: layings in pools of blocks."""

import unittest

from hillrooms.heights import peak
from hillrooms.leastorders import least_order
from hillrooms.orders import first_order
from hillrooms.pools import pool_heap, pools
from hillrooms.reader import read
from tests.lays import programs_and_orders, right_by_word, used_cells
from tests.reckoner import worked_out
from tests.refusals import SizedCase
from tests.samples import HOLDS, TREE
from tests.trees import bush, chain, parts_by_number


def held_at_once(program, order):
    """For each number of cells how many blocks of it are held at once at most, by all values looked at."""
    facts = worked_out(program)
    parts = parts_by_number(program)
    whole = {part: number for number, beneath in enumerate(parts) for part in beneath}
    found = {}
    for step, number in enumerate(order):
        held = [joint for joint in order[:step] if whole.get(joint) not in order[:step]]
        wanted = [facts[joint][0] for joint in held] + [facts[number][0], facts[number][1]]
        for cells in wanted:
            if cells > 0:
                found[cells] = max(found.get(cells, 0), wanted.count(cells))
    return found


def pools_by_word(program, order):
    """The laying of [19], by a table that tells who holds each block."""
    facts = worked_out(program)
    parts = parts_by_number(program)
    blocks = {}
    place = 0
    for cells, many in sorted(held_at_once(program, order).items()):
        for _ in range(many):
            blocks[place] = [cells, None]
            place += cells

    def took(cells, holder):
        free = [place for place, (wide, held) in blocks.items() if wide == cells and held is None]
        blocks[min(free)][1] = holder
        return min(free)

    found = []
    for number in order:
        size, room, _ = facts[number]
        value_place = took(size, number)
        room_place = took(room, "room") if room else 0
        found.append((number, value_place, room_place, ()))
        for block in blocks.values():
            if block[1] == "room" or block[1] in parts[number]:
                block[1] = None
    return tuple(found)


def heap_by_word(program, order):
    return sum(cells * many for cells, many in held_at_once(program, order).items())


class PoolsTest(SizedCase):

    def check(self, heap, laying, text, order):
        program = read(text)
        self.assertEqual(laying, pools(program, order), text)
        self.assertEqual(heap, pool_heap(program, order), text)

    def test_the_example(self):
        self.check(12, ((2, 0, 0, ()), (1, 4, 8, ()), (0, 0, 0, ())), "rev(sort(in a 4))", (2, 1, 0))

    def test_one_joint(self):
        self.check(64, ((0, 0, 0, ()),), "in xs 64", (0,))

    def test_the_pools_by_ascending_number(self):
        # One block of 1, two of 2 and one of 3 cells; the last one is used twice.
        self.check(8, ((2, 5, 0, ()), (1, 0, 0, ()), (4, 1, 0, ()), (3, 3, 0, ()), (0, 5, 0, ())),
                   "cat(sum([1 2 3]), rev([4 5]))", (2, 1, 4, 3, 0))
        self.assertEqual(6, peak(read("cat(sum([1 2 3]), rev([4 5]))"), (2, 1, 4, 3, 0)))

    def test_values_and_rooms_of_one_size_in_one_pool(self):
        self.check(9, ((1, 0, 0, ()), (0, 3, 6, ())), "hold 3([1 2 3])", (1, 0))

    def test_rooms_of_another_size_than_the_values(self):
        self.check(8, ((1, 2, 0, ()), (0, 5, 0, ())), "hold 2([1 2 3])", (1, 0))
        self.check(10, ((1, 0, 0, ()), (0, 3, 6, ())), "hold 4([1 2 3])", (1, 0))

    def test_rooms_of_0_have_no_block(self):
        self.check(6, ((1, 0, 0, ()), (0, 3, 0, ())), "hold 0([1 2 3])", (1, 0))
        self.check(2, ((2, 0, 0, ()), (1, 1, 0, ()), (0, 0, 0, ())), "rev(rev([1]))", (2, 1, 0))

    def test_the_least_free_block_is_used_again(self):
        # The block of joint 2 is free again for joint 5, that of joint 5 only behind joint 4.
        self.check(7, ((2, 0, 0, ()), (3, 1, 0, ()), (1, 2, 0, ()), (5, 0, 0, ()), (4, 3, 0, ()), (0, 4, 0, ())),
                   "cat(rev([1]), [2], rev([3]))", (2, 3, 1, 5, 4, 0))

    def test_the_block_of_a_room_is_free_behind_the_step(self):
        self.check(6, ((2, 0, 0, ()), (1, 1, 2, ()), (3, 0, 0, ()), (4, 2, 0, ()), (0, 3, 0, ())),
                   "cat(hold 1([1]), [2], [3])", (2, 1, 3, 4, 0))

    def test_the_value_ahead_of_the_room(self):
        # Ahead of the hold block 2 alone is free: the value takes it, the room the next one.
        self.check(6, ((3, 0, 0, ()), (5, 1, 0, ()), (2, 2, 0, ()), (1, 0, 0, ()), (4, 2, 3, ()), (0, 4, 0, ())),
                   "cat(rev(rev([1])), hold 1([2]))", (3, 5, 2, 1, 4, 0))

    def test_kinds_and_names_of_arguments(self):
        order = (2, 3, 1, 6, 5, 4, 0)
        found = pools(program=TREE, order=order)
        self.assertEqual(((2, 0, 0, ()), (3, 1, 0, ()), (1, 2, 0, ()), (6, 0, 0, ()), (5, 1, 0, ()), (4, 0, 0, ()),
                          (0, 4, 0, ())), found)
        for thing in found + (found, found[5][3]):
            self.assertIs(tuple, thing.__class__)
        self.assertEqual(7, pool_heap(program=TREE, order=order))
        self.assertIs(int, pool_heap(TREE, order).__class__)

    def test_many_programs_against_the_words(self):
        for program, order in programs_and_orders(191, 250) + [(bush(40), first_order(bush(40)))]:
            self.assertEqual(pools_by_word(program, order), pools(program, order))
            self.assertEqual(heap_by_word(program, order), pool_heap(program, order))

    def test_all_lies_within_the_heap_and_no_two_things_share_a_cell(self):
        for program, order in programs_and_orders(192, 250) + [(HOLDS, least_order(HOLDS)),
                                                               (chain(40), first_order(chain(40)))]:
            heap = pool_heap(program, order)
            laying = pools(program, order)
            self.assertTrue(right_by_word(program, order, heap, laying))
            self.assertEqual(heap, used_cells(program, laying))
            self.assertLessEqual(heap, peak(program, order) * len(held_at_once(program, order)))
            self.assertGreaterEqual(heap, peak(program, order))

    def test_refusals(self):
        self.assert_orders_refused(pools)
        self.assert_orders_refused(pool_heap)


if __name__ == "__main__":
    unittest.main()
