"""The book: a program that is edited, with the rows of its boughs."""

from hillrooms.edits import line_above, own_rows, with_bough, with_told
from hillrooms.errors import BadJoint, NothingToRedo, NothingToUndo, TooMany
from hillrooms.joints import bough_sizes
from hillrooms.ops import is_between
from hillrooms.sizes import sizes

MOST_DEEDS = 100


class Book:
    """A program that changes; deeds can be undone and done again."""

    def __init__(self, program):
        self._program = program
        self._rows, self._looks = own_rows(program, {})
        # Pairs (program, rows) from before the standing deeds, and from behind those undone.
        self._done = []
        self._undone = []

    def put(self, joint, program):
        """Put a program in the place of the bough of a joint."""
        self._check_joint(joint)
        whole = with_bough(self._program, joint, program)
        grown = len(sizes(whole)) - len(self._rows)
        changed = list(range(joint, joint + bough_sizes(self._program)[joint]))
        self._grant(whole, self._kept(joint, changed, grown))

    def told(self, joint, told):
        """Change the told things of a joint."""
        self._check_joint(joint)
        whole = with_told(self._program, joint, told)
        sizes(whole)
        self._grant(whole, self._kept(joint, [joint], 0))

    def undo(self):
        """Take back the last standing deed."""
        if not self._done:
            raise NothingToUndo(0)
        self._undone.append((self._program, self._rows))
        self._program, self._rows = self._done.pop()
        self._looks = 0

    def redo(self):
        """Do the deed undone last again."""
        if not self._undone:
            raise NothingToRedo(0)
        self._done.append((self._program, self._rows))
        self._program, self._rows = self._undone.pop()
        self._looks = 0

    def program(self):
        """The program as it is now."""
        return self._program

    def peak(self):
        """The least peak of the program."""
        return self._rows[0][0][0]

    def order(self):
        """The least order of the program."""
        return tuple([step for _, _, steps in self._rows[0] for step in steps])

    def row(self, joint):
        """The row of the bough of a joint in pairs."""
        self._check_joint(joint)
        return tuple([(hill, valley) for hill, valley, _ in self._rows[joint]])

    def looks(self):
        """How many rows the last granted deed worked out anew."""
        return self._looks

    def _check_joint(self, joint):
        """Refuse a number that no joint has."""
        if not is_between(joint, 0, len(self._rows) - 1):
            raise BadJoint(joint)

    def _kept(self, joint, changed, grown):
        """The rows that a deed at a joint leaves as they are, by their new numbers.

        changed are the joints that it takes away or alters, grown is how many more there will be.
        """
        found = {}
        over = line_above(self._program, joint)
        for number, row in enumerate(self._rows):
            if number not in changed and number not in over:
                found[number if number < joint else number + grown] = row
        return found

    def _grant(self, whole, kept):
        """Let a deed stand that makes this whole program, if not too many stand."""
        if len(self._done) >= MOST_DEEDS:
            raise TooMany(MOST_DEEDS + 1)
        self._done.append((self._program, self._rows))
        self._undone = []
        self._program = whole
        self._rows, self._looks = own_rows(whole, kept)
