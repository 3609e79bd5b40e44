"""The errors of the package; all of them stand under Refused alone."""


class Refused(ValueError):
    """What all errors of the package stand under."""

    def __init__(self, what):
        self.what = what


class BadText(Refused):
    """A text cannot be read; what is the offset or the row."""


class BadProgram(Refused):
    """What stands in the place of a joint is none; what is its number."""


class BadOp(Refused):
    """A joint has an op or told things that are none; what is its number or offset."""


class BadParts(Refused):
    """A joint has another number of parts than its op wants; what is its number or offset."""


class Unequal(Refused):
    """The parts of a joint have different sizes; what is its number."""


class BadPart(Refused):
    """A part ends behind the row that it is cut from; what is the number of the joint."""


class TooGreat(Refused):
    """A value has too many numbers; what is the number of its joint."""


class TooMany(Refused):
    """There is more of something than may be; what is how many."""


class BadInput(Refused):
    """An input is missing or does not fit; what is its name."""


class BadOrder(Refused):
    """A tuple of numbers is no order; what is the index of its first fault."""


class NotBranchwise(Refused):
    """An order does not finish one branch before the next; what is 0."""


class BadWay(Refused):
    """There is no such way of laying; what is the way."""


class BadHeap(Refused):
    """A heap has a size that none may have; what is this size."""


class BadCode(Refused):
    """A code is none; what is the index of its first bad row."""


class BadCell(Refused):
    """A row of a code misuses a cell; what is the pair of the row's index and the cell."""


class BadJoint(Refused):
    """There is no such joint; what is the number that was given."""


class BadRow(Refused):
    """An entry of a run is none; what is its index."""


class NothingToUndo(Refused):
    """No deed stands; what is 0."""


class NothingToRedo(Refused):
    """No deed is undone; what is 0."""
