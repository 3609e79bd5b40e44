"""Layings a second time for the tests, cell by cell, and layings spoilt."""

import random

from hillrooms.branches import best_branch_order
from hillrooms.leastorders import least_order
from hillrooms.orders import first_order
from tests.reckoner import worked_out
from tests.runs import random_order
from tests.trees import parts_by_number, sized_programs


def programs_and_orders(seed, how_many):
    """Programs with orders of any kind, and with those that the package finds."""
    dice = random.Random(seed)
    found = []
    for program in sized_programs(seed, how_many, 40):
        found.append((program, random_order(dice, program, True)))
        found.append((program, dice.choice((least_order, best_branch_order, first_order))(program)))
    return found


def programs_and_branch_orders(seed, how_many):
    """Programs with orders that finish one branch before the next."""
    dice = random.Random(seed)
    found = []
    for program in sized_programs(seed, how_many, 40):
        found.append((program, random_order(dice, program, False)))
        found.append((program, dice.choice((best_branch_order, first_order))(program)))
    return found


def cells(place, many):
    return list(range(place, place + many))


def lie_right(stretches, heap):
    """Whether all cells of the stretches lie within the heap, and each is named once."""
    named = [cell for place, many in stretches for cell in cells(place, many)]
    return len(named) == len(set(named)) and all(0 <= cell < heap for cell in named)


def right_by_word(program, order, heap, laying):
    """Whether a laying is right; it has the form of [16], its numbers are small."""
    facts = worked_out(program)
    parts = parts_by_number(program)
    places = {}
    if [step[0] for step in laying] != list(order):
        return False
    for number, place, room_place, moves in laying:
        for joint, goal in moves:
            if joint not in places:
                return False
            places[joint] = goal
            if not lie_right([(places[held], facts[held][0]) for held in places], heap):
                return False
        places[number] = place
        room = facts[number][1]
        if room == 0 and room_place != 0:
            return False
        if not lie_right([(places[held], facts[held][0]) for held in places] + [(room_place, room)], heap):
            return False
        for part in parts[number]:
            del places[part]
    return True


def used_cells(program, laying):
    """One more than the greatest cell that a laying ever uses."""
    facts = worked_out(program)
    greatest = 0
    for number, place, room_place, moves in laying:
        size, room, _ = facts[number]
        greatest = max([greatest, place + size, room_place + room] + [goal + facts[joint][0] for joint, goal in moves])
    return greatest


def with_step(laying, index, step):
    return laying[:index] + (step,) + laying[index + 1:]


def spoilt_moves(dice, moves, joints, heap):
    """The moves with one of them put in, left out, changed, or exchanged with another."""
    moves = list(moves)
    way = dice.randrange(4) if moves else 0
    if way == 0:
        moves.insert(dice.randint(0, len(moves)), (dice.randrange(joints), dice.randint(-1, heap)))
    elif way == 1:
        del moves[dice.randrange(len(moves))]
    elif way == 2:
        at = dice.randrange(len(moves))
        moves[at] = (moves[at][0], moves[at][1] + dice.choice((-2, -1, 1, 2, 5)))
    else:
        dice.shuffle(moves)
    return tuple(moves)


def spoilt_laying(dice, laying, heap):
    """The laying with one thing changed; it may still be right."""
    index = dice.randrange(len(laying))
    number, place, room_place, moves = laying[index]
    way = dice.randrange(4)
    if way == 0:
        place = dice.choice((place - 1, place + 1, dice.randint(-1, heap)))
    elif way == 1:
        room_place = dice.choice((room_place - 1, room_place + 1, 0, dice.randint(-1, heap)))
    else:
        moves = spoilt_moves(dice, moves, len(laying), heap)
    return with_step(laying, index, (number, place, room_place, moves))
