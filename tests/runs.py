"""Orders, heights, rows and weaves a second time for the tests, straight by the words of [8] to [12]."""

import random
from itertools import combinations_with_replacement

from tests.reckoner import worked_out
from tests.trees import parts_by_number


def random_order(dice, program, loose):
    """An order of the program; a loose one takes any joint that may come, another one stays in its branch."""
    parts = parts_by_number(program)
    if not loose:
        def walk(number):
            beneath = list(parts[number])
            dice.shuffle(beneath)
            return [joint for part in beneath for joint in walk(part)] + [number]
        return tuple(walk(0))
    found = []
    while len(found) < len(parts):
        found.append(dice.choice([number for number in range(len(parts)) if number not in found
                                  and all(part in found for part in parts[number])]))
    return tuple(found)


def all_orders(program):
    """All orders of a small program."""
    parts = parts_by_number(program)
    orders = [()]
    for _ in parts:
        orders = [order + (number,) for order in orders for number in range(len(parts))
                  if number not in order and all(part in order for part in parts[number])]
    return orders


def stands_side_by_side(program, order):
    """Whether each bough's joints stand side by side in an order."""
    parts = parts_by_number(program)

    def bough(number):
        return [number] + [joint for part in parts[number] for joint in bough(part)]

    for number in range(len(parts)):
        places = sorted(order.index(beneath) for beneath in bough(number))
        if places != list(range(places[0], places[0] + len(places))):
            return False
    return True


def heights_by_word(program, order):
    """The pairs (needed, held): at each step all values are looked at, whether they are held."""
    facts = worked_out(program)
    parts = parts_by_number(program)
    whole = {part: number for number, beneath in enumerate(parts) for part in beneath}

    def held_sizes(made):
        return sum(facts[joint][0] for joint in made if whole.get(joint) not in made)

    found = []
    for step, number in enumerate(order):
        size, room, _ = facts[number]
        found.append((held_sizes(order[:step]) + room + size, held_sizes(order[:step + 1])))
    return tuple(found)


def run_by_word(program, order):
    return tuple((needed, held, (joint,)) for joint, (needed, held) in zip(order, heights_by_word(program, order)))


def hills_by_word(run):
    if not run:
        return ()
    hill = max(needed for needed, _, _ in run)
    last = max(index for index, entry in enumerate(run) if entry[0] == hill)
    valley = min(held for _, held, _ in run[last:])
    end = max(index for index, entry in enumerate(run) if entry[1] == valley and index >= last)
    steps = sum((steps for _, _, steps in run[:end + 1]), ())
    return ((hill, valley, steps),) + hills_by_word(run[end + 1:])


def follows_by_trying(one, two):
    """Whether one follows two, by all p(0) to p(m) that there are."""
    def valley_behind(place):
        return one[place - 1][1] if place else 0

    for places in combinations_with_replacement(range(len(one) + 1), len(two)):
        cuts = (0,) + places
        if cuts[-1] == len(one) and all(
                all(segment[0] <= two[j - 1][0] for segment in one[cuts[j - 1]:cuts[j]])
                and valley_behind(cuts[j]) <= two[j - 1][1] for j in range(1, len(cuts))):
            return True
    return False


def put_behind(rows, turns):
    """The segments of some rows one behind the other: turns tells from which row the next one comes."""
    at = [0] * len(rows)
    found = []
    for turn in turns:
        row, index = rows[turn], at[turn]
        below = row[index - 1][1] if index else 0
        base = found[-1][1] if found else 0
        hill, valley, steps = row[index]
        found.append((base + hill - below, base + valley - below, steps))
        at[turn] += 1
    return tuple(found)


def all_turns(many):
    """All ways to take so many things from each of some rows."""
    if not any(many):
        return [()]
    found = []
    for index, left in enumerate(many):
        if left:
            rest = many[:index] + (left - 1,) + many[index + 1:]
            found += [(index,) + turns for turns in all_turns(rest)]
    return found


def weave_by_word(rows):
    places = []
    for index, row in enumerate(rows):
        for at, (hill, valley, _) in enumerate(row):
            places.append((valley - hill, index, at))
    return put_behind(rows, [index for _, index, _ in sorted(places)])


def pairs(row):
    return tuple((hill, valley) for hill, valley, _ in row)


def random_run(dice, most, highest):
    """A run of up to so many triples; needed may be below held."""
    return tuple((dice.randint(0, highest), dice.randint(0, highest), tuple(range(index, index + dice.randint(0, 2))))
                 for index in range(dice.randint(0, most)))


def random_runs(seed, how_many, most, highest):
    dice = random.Random(seed)
    return [random_run(dice, most, highest) for _ in range(how_many)]
