"""The machine: it runs code while every cell is watched."""

from hillrooms.coderows import MOST_CELLS, cells_of, is_code_row, read_stretches, written_stretches
from hillrooms.errors import BadCell, BadCode, BadHeap, BadInput, Refused
from hillrooms.ops import is_between
from hillrooms.plainly import is_row_of, plain
from hillrooms.reckoning import reckoned


def check_heap(heap):
    """Refuse a heap that the machine has not."""
    if not is_between(heap, 0, MOST_CELLS):
        raise BadHeap(heap)


def check_code(code):
    """Refuse a code of which a row is not of form, or that does not end with its only out."""
    last = len(code) - 1
    for index, row in enumerate(code):
        if not is_code_row(row) or (row[0] == "out" and index < last):
            raise BadCode(index)
    if len(code) == 0 or code[last][0] != "out":
        raise BadCode(len(code))


def named_again(cells):
    """Those of some cells that have stood among them before."""
    seen = {}
    found = []
    for cell in cells:
        if cell in seen:
            found.append(cell)
        seen[cell] = True
    return found


class Machine:
    """A heap, its held cells, and what is told of the rows that are done in it."""

    def __init__(self, heap, inputs):
        self.heap = heap
        self.given = dict(inputs)
        # The numbers in the held cells.
        self.numbers = {}
        self.counts = []
        self.highest = 0
        self.moved = 0
        self.answer = ()

    def check_given(self, row):
        """Refuse a row "in" of which the input is missing or does not fit."""
        _, _, name, k = row
        if name not in self.given or not is_row_of(self.given[name], k):
            raise BadInput(name)

    def bad_cells(self, row):
        """The cells of a row with which anything is wrong."""
        reads = cells_of(read_stretches(row))
        writes = cells_of(written_stretches(row))
        is_read = {cell: True for cell in reads}
        found = [cell for cell in reads + writes if cell >= self.heap]
        found.extend([cell for cell in reads if cell not in self.numbers])
        found.extend([cell for cell in writes if cell in self.numbers and cell not in is_read])
        # A move may write cells that it reads; of a do each cell is named once.
        if row[0] == "do":
            found.extend(named_again(reads + writes))
        return found

    def check_row(self, index, row):
        """Refuse a row that cannot be done now."""
        if row[0] == "in":
            self.check_given(row)
        found = self.bad_cells(row)
        if found:
            raise BadCell((index, min(found)))

    def written(self, row, rows):
        """The numbers that a row writes, where rows is what it reads."""
        kind = row[0]
        if kind == "row":
            return row[2]
        if kind == "in":
            return self.given[row[2]]
        if kind == "move":
            return rows[0]
        return reckoned(row[1], row[2], rows)

    def count_row(self, row):
        """Count what a row holds and moves, ahead of doing it."""
        writes = cells_of(written_stretches(row))
        many = len(self.numbers)
        if row[0] == "move":
            self.moved += len(writes)
        else:
            many += len(writes)
        self.counts.append(many)
        self.highest = max([self.highest] + [cell + 1 for cell in writes])

    def numbers_at(self, place, k):
        """The numbers in k held cells from a place on."""
        return tuple([self.numbers[cell] for cell in range(place, place + k)])

    def do_row(self, row):
        """Do a row that can be done."""
        stretches = read_stretches(row)
        rows = [self.numbers_at(place, k) for place, k in stretches]
        for cell in cells_of(stretches):
            del self.numbers[cell]
        if row[0] == "out":
            self.answer = rows[0]
            return
        # Behind the cells of the value stand those of the room: these are free again at once.
        for cell, number in zip(cells_of(written_stretches(row)), self.written(row, rows)):
            self.numbers[cell] = number


def run(heap, code, inputs):
    """What the out tells, how many cells each row holds, the cells used, and how many were moved."""
    check_heap(heap)
    check_code(code)
    machine = Machine(heap, inputs)
    for index, row in enumerate(code):
        machine.check_row(index, row)
        machine.count_row(row)
        machine.do_row(row)
    if machine.numbers:
        raise BadCode(len(code))
    return machine.answer, tuple(machine.counts), machine.highest, machine.moved


def are_inputs(things):
    """Whether a thing is a tuple of pairs of a text and any value, no text twice."""
    if not isinstance(things, tuple):
        return False
    seen = {}
    for thing in things:
        if not isinstance(thing, tuple) or len(thing) != 2 or not isinstance(thing[0], str) or thing[0] in seen:
            return False
        seen[thing[0]] = True
    return True


def code_right(program, heap, code, inputs):
    """Whether the code runs and tells what the program does."""
    if not isinstance(code, tuple) or not are_inputs(inputs):
        return False
    try:
        value, _, _, _ = run(heap, code, inputs)
        return value == plain(program, inputs)
    except Refused:
        return False
