"""The machine of [24] a second time for the tests, cell by cell, and codes to try on both."""

import random

from hillrooms.errors import BadCell, BadCode, BadInput, Refused
from hillrooms.machine import run
from tests.reckoner import MODULUS, made, wanted

# What the inputs are in all codes that are drawn here; no code finds one called no.
INPUTS = (("xs", (1, 2, 3)), ("ys", (5, 1000002)))


def stretch(place, many):
    return list(range(place, place + many))


def do_value(row, cells):
    """The value of a do whose parts are held."""
    rows = [tuple(cells[cell] for cell in stretch(place, k)) for place, k in row[3]]
    return tuple(number % MODULUS for number in made(row[1], row[2], rows, {}))


def do_size(row):
    return len(made(row[1], row[2], [(1,) * k for _, k in row[3]], {}))


def named(row):
    """The cells that a row reads, those of its value or goal, and those of its room."""
    kind = row[0]
    if kind == "row":
        return [], stretch(row[1], len(row[2])), []
    if kind == "in":
        return [], stretch(row[1], row[3]), []
    if kind == "move":
        return stretch(row[1], row[3]), stretch(row[2], row[3]), []
    if kind == "out":
        return stretch(row[1], row[2]), [], []
    reads = [cell for place, k in row[3] for cell in stretch(place, k)]
    return reads, stretch(row[4], do_size(row)), stretch(row[5], row[6])


def is_wrong(cell, row, heap, cells):
    """Whether anything is wrong with a cell of a row, by the words of [24]."""
    reads, value, room = named(row)
    if cell >= heap:
        return True
    if cell in reads and cell not in cells:
        return True
    if cell in value + room and cell in cells and not (row[0] == "move" and cell in reads):
        return True
    return row[0] == "do" and (reads + value + room).count(cell) > 1


def run_by_word(heap, code, inputs):
    """The four things that run tells, or the error and what it keeps; all rows are of form, the last is an out."""
    given = dict(inputs)
    cells = {}
    held, highest, moved, answer = [], 0, 0, None
    for index, row in enumerate(code):
        kind = row[0]
        reads, value, room = named(row)
        if kind == "in":
            there = given.get(row[2])
            if not isinstance(there, tuple) or len(there) != row[3] or any(n not in range(MODULUS) for n in there):
                return BadInput, row[2]
        for cell in sorted(set(reads + value + room)):
            if is_wrong(cell, row, heap, cells):
                return BadCell, (index, cell)
        before = dict(cells)
        during = set(before) | set(value) | set(room)
        held.append(len(before) if kind == "move" else len(during))
        highest = max([highest] + [cell + 1 for cell in during])
        numbers = {"row": lambda: row[2], "in": lambda: given[row[2]], "do": lambda: do_value(row, before),
                   "move": lambda: [before[cell] for cell in reads], "out": lambda: ()}[kind]()
        cells = {cell: before[cell] for cell in before if cell not in reads}
        cells.update(dict(zip(value, numbers)))
        if kind == "move":
            moved += row[3]
        if kind == "out":
            answer = tuple(before[cell] for cell in reads)
    return (BadCode, len(code)) if cells else (answer, tuple(held), highest, moved)


def outcome(heap, code, inputs):
    """What run tells, or the error and what it keeps."""
    try:
        return run(heap, code, inputs)
    except Refused as refusal:
        return refusal.__class__, refusal.what


def random_do(dice, places):
    """A do of form; its parts may be any stretches, held or not."""
    op = dice.choice(("rev", "sort", "sum", "top", "add", "sub", "mul", "dot", "cat", "outer", "blend", "part", "rep",
                      "hold"))
    many = {"add": 2, "sub": 2, "mul": 2, "dot": 2, "outer": 2, "blend": 2, "cat": dice.randint(1, 4)}.get(op, 1)
    parts = [dice.choice(places) for _ in range(many)]
    if op in ("add", "sub", "mul", "dot"):
        parts[1] = (parts[1][0], parts[0][1])
    wide = parts[0][1]
    low = dice.randrange(wide)
    told = {"part": (low, dice.randint(low + 1, wide)), "rep": (dice.randint(1, 3),),
            "hold": (dice.randint(0, 3),)}.get(op, ())
    room = wanted(op, told, [(0,) * k for _, k in parts])
    return ("do", op, told, tuple(parts), dice.randrange(20), dice.randrange(20), room)


def random_code(dice, rows):
    """A code of form; it reads what was written before more often than not."""
    places = [(dice.randrange(20), dice.randint(1, 3))]
    code = []
    for _ in range(rows):
        at, k = dice.randrange(20), dice.randint(1, 3)
        way = dice.randrange(6)
        if way < 2:
            code.append(("row", at, tuple(dice.choice((1, 2, 3, 1000002)) for _ in range(k))))
        elif way == 2:
            code.append(("in", at, dice.choice(("xs", "ys", "no")), k))
        elif way == 3:
            here, k = dice.choice(places)
            code.append(("move", here, at, k))
        else:
            code.append(random_do(dice, places))
            at, k = code[-1][4], do_size(code[-1])
        places.append((at, k))
    return tuple(code) + (("out",) + dice.choice(places),)


def random_codes(seed, how_many):
    dice = random.Random(seed)
    return [random_code(dice, dice.randint(0, 4)) for _ in range(how_many)]


class Writer:
    """Writes code that runs: it knows which stretches are held."""

    def __init__(self, dice, heap):
        self.dice = dice
        self.heap = heap
        self.held = []
        self.code = []

    def free_place(self, k, taken=(), leaving=()):
        """A place for k cells, perhaps over those that are left by the same row."""
        named = {cell for place, many in list(self.held) + list(taken) for cell in stretch(place, many)}
        named -= {cell for place, many in leaving for cell in stretch(place, many)}
        places = [place for place in range(self.heap - k + 1) if not named & set(stretch(place, k))]
        return self.dice.choice(places) if places else None

    def write(self):
        k = self.dice.randint(1, 3)
        at = self.free_place(k)
        if at is None:
            return
        row = ("in", at, "xs", 3) if k == 3 else ("row", at, tuple(self.dice.randrange(MODULUS) for _ in range(k)))
        self.code.append(row)
        self.held.append((at, k))

    def move(self):
        if self.held:
            here, k = self.dice.choice(self.held)
            there = self.free_place(k, leaving=[(here, k)])
            self.held[self.held.index((here, k))] = (there, k)
            self.code.append(("move", here, there, k))

    def do(self, op):
        if not self.held:
            return
        many = min(len(self.held), self.dice.randint(2, 4)) if op == "cat" else 1
        parts = self.dice.sample(self.held, many)
        told = (self.dice.randint(0, 2),) if op == "hold" else ()
        rows = [(0,) * k for _, k in parts]
        size, room = len(made(op, told, rows, {})), wanted(op, told, rows)
        at = self.free_place(size)
        room_at = None if at is None else self.free_place(room, taken=[(at, size)])
        if room_at is None:
            return
        self.code.append(("do", op, told, tuple(parts), at, room_at, room))
        self.held = [there for there in self.held if there not in parts] + [(at, size)]

    def written(self, rows):
        """The code, or None if the heap is too full to bring all held values together."""
        for _ in range(rows):
            way = self.dice.randrange(3)
            if way == 0:
                self.write()
            elif way == 1:
                self.move()
            else:
                self.do(self.dice.choice(("rev", "sort", "sum", "top", "cat", "hold")))
        self.write()
        for _ in range(20):
            if len(self.held) == 1:
                return tuple(self.code) + (("out",) + self.held[0],)
            self.do(self.dice.choice(("cat", "sum")))
        return None


def running_codes(seed, how_many, heap):
    """Codes that run in a heap, with INPUTS."""
    dice = random.Random(seed)
    found = []
    while len(found) < how_many:
        code = Writer(dice, heap).written(dice.randint(0, 9))
        if code is not None:
            found.append(code)
    return found


def spoilt_code(dice, code):
    """The code with one place changed, or one row left out or put in; it is still of form."""
    index = dice.randrange(len(code))
    row = list(code[index])
    way = dice.randrange(5)
    if way == 2:
        return code[:index] + (("row", dice.randrange(24), (1,)),) + code[index:]
    if way == 0 and len(code) > 1:
        return code[:index] + code[index + 1:] if index < len(code) - 1 else code
    if way == 1 and index < len(code) - 1:
        return code[:index] + (code[index],) + code[index:]
    by = dice.choice((-2, -1, 1, 2))
    if row[0] == "do":
        at = dice.choice((3, 4, 5))
        if at == 3:
            parts = list(row[3])
            part = dice.randrange(len(parts))
            parts[part] = (max(0, parts[part][0] + by), parts[part][1])
            row[3] = tuple(parts)
        else:
            row[at] = max(0, row[at] + by)
    elif row[0] == "move":
        at = dice.choice((1, 2))
        row[at] = max(0, row[at] + by)
    else:
        row[1] = max(0, row[1] + by)
    return code[:index] + (tuple(row),) + code[index + 1:]
