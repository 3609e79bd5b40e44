"""[27] and [28]: the book, its deeds, and how much each works out anew."""

import random
import unittest

from hillrooms.book import Book
from hillrooms.errors import (
    BadInput, BadJoint, BadOp, BadPart, BadParts, BadProgram, NothingToRedo, NothingToUndo, Refused, TooGreat, TooMany,
    Unequal,
)
from hillrooms.joints import above, joints
from hillrooms.papers import paper
from hillrooms.reader import read
from tests.refusals import NO_PROGRAMS, NO_SIZES
from tests.samples import HOLDS, TREE
from tests.trees import (
    NO_TRIPLES, Case, bush, chain, count, deep, given, numbered, over, random_program, random_told, row,
    sized_program, sized_programs,
)

# Numbers of no joint of a program with up to 40 joints.
NO_JOINTS = (-1, -7, 40, 41, 10 ** 30, -(10 ** 30))


def state(book):
    """All that a book tells, but for its looks."""
    many = count(book.program())
    return book.program(), book.peak(), book.order(), tuple(book.row(joint) for joint in range(many))


def state_of(program):
    """What a book of a program tells: all of it stands in its paper."""
    peak, order, rows = paper(program)
    return program, peak, order, rows


def outcome(deed, *arguments):
    """None if a deed is granted, or the error and what it keeps."""
    try:
        return deed(*arguments)
    except Refused as refusal:
        return refusal.__class__, refusal.what


def put_by_word(program, joint, thing):
    """The whole program with a thing in the place of a bough, joint by joint; it may be none."""
    at = [-1]

    def walk(old):
        at[0] += 1
        if at[0] == joint:
            at[0] += count(old) - 1
            return thing
        return (old[0], old[1], tuple([walk(part) for part in old[2]]))

    return walk(program)


def told_by_word(program, joint, told):
    op, _, parts = numbered(program)[joint]
    return put_by_word(program, joint, (op, told, parts))


def depth(program, joint):
    wholes = above(program)
    found = 0
    while joint > 0:
        joint = wholes[joint]
        found += 1
    return found


class BookCase(Case):

    def assert_tells(self, program, book):
        self.assertEqual(state_of(program), state(book))

    def assert_no_deed(self, error, what, book, deed, *arguments):
        """A deed is refused with this error, and changes nothing."""
        before = state(book), book.looks()
        self.assert_refused(error, what, getattr(book, deed), *arguments)
        self.assertEqual(before, (state(book), book.looks()))


class NewBookTest(BookCase):

    def test_what_it_tells(self):
        book = Book(HOLDS)
        self.assertIs(HOLDS, book.program())
        self.assertEqual(36, book.peak())
        self.assertEqual((6, 5, 4, 3, 12, 11, 10, 9, 2, 1, 8, 7, 0), book.order())
        self.assertEqual(((36, 1), (35, 2), (23, 11)), book.row(0))
        self.assertEqual(((36, 1), (18, 6)), book.row(1))
        self.assertEqual(((1, 1),), book.row(12))
        self.assertEqual(13, book.looks())

    def test_many_programs(self):
        for program in sized_programs(271, 150, 40) + [bush(40), chain(40), row(1)]:
            book = Book(program)
            self.assert_tells(program, book)
            self.assertEqual(count(program), book.looks())

    def test_kinds_and_names_of_arguments(self):
        book = Book(program=TREE)
        self.assertIsNone(book.put(joint=2, program=row(5)))
        self.assertIsNone(book.told(joint=2, told=(6,)))
        self.assertIsNone(book.undo())
        self.assertIsNone(book.redo())
        self.assertEqual(((1, 1),), book.row(joint=2))
        self.assertEqual([tuple, int, tuple, tuple, int], [thing.__class__ for thing in (
            book.program(), book.peak(), book.order(), book.row(0), book.looks())])
        self.assertEqual({tuple}, {pair.__class__ for pair in book.row(0)})
        self.assertEqual({2}, {len(pair) for pair in book.row(0)})

    def test_refusals(self):
        for error, what, thing in NO_PROGRAMS + NO_SIZES:
            self.assert_refused(error, what, Book, thing)

    def test_rows_of_no_joints(self):
        book = Book(TREE)
        for joint in NO_JOINTS + (7, None, "", "0", (), (0,)):
            self.assert_no_deed(BadJoint, joint, book, "row", joint)


class PutTest(BookCase):

    def test_the_example(self):
        book = Book(read("add([1], [2])"))
        book.put(1, read("sum([5])"))
        self.assertEqual(3, book.looks())
        self.assertEqual(((1, 1),), book.row(3))
        self.assertEqual((2, 1, 3, 0), book.order())
        self.assertEqual(read("add(sum([5]), [2])"), book.program())

    def test_each_joint(self):
        # A bough of 3 joints in the place of boughs of 1, 2, 3 and 7.
        new = read("cat([8], [9])")
        for joint, text, looks in ((0, "cat([8], [9])", 3), (1, "cat(cat([8], [9]), rev(rev([3])))", 4),
                                   (2, "cat(cat(cat([8], [9]), [2]), rev(rev([3])))", 5),
                                   (3, "cat(cat([1], cat([8], [9])), rev(rev([3])))", 5),
                                   (4, "cat(cat([1], [2]), cat([8], [9]))", 4),
                                   (5, "cat(cat([1], [2]), rev(cat([8], [9])))", 5),
                                   (6, "cat(cat([1], [2]), rev(rev(cat([8], [9]))))", 6)):
            book = Book(TREE)
            self.assertIsNone(book.put(joint, new))
            self.assertEqual(looks, book.looks())
            self.assert_tells(read(text), book)

    def test_smaller_and_larger_boughs(self):
        for text in ("[4]", "rev([4])", "cat([4], rev([5]), [6])", "in xs 9"):
            for joint in range(7):
                book = Book(TREE)
                new = read(text)
                book.put(joint, new)
                self.assertEqual(count(new) + depth(TREE, joint), book.looks())
                self.assert_tells(put_by_word(TREE, joint, new), book)

    def test_numbers_behind_a_deed(self):
        book = Book(TREE)
        book.put(1, row(1, 2))
        # What was joint 6 is joint 4 now.
        self.assertEqual(((1, 1),), book.row(4))
        self.assert_no_deed(BadJoint, 5, book, "row", 5)
        self.assert_no_deed(BadJoint, 5, book, "put", 5, row(1))
        self.assert_no_deed(BadJoint, 6, book, "told", 6, (1,))
        book.told(4, (8,))
        self.assertEqual(read("cat([1 2], rev(rev([8])))"), book.program())
        book.put(1, read("cat([1], [2], [3])"))
        book.put(7, row(5, 6))
        self.assertEqual(read("cat(cat([1], [2], [3]), rev(rev([5 6])))"), book.program())

    def test_up_to_forty_joints(self):
        book = Book(chain(39))
        book.put(38, chain(2))
        self.assertEqual((chain(40), 40), (book.program(), book.looks()))
        self.assert_no_deed(TooMany, 41, book, "put", 39, chain(2))
        self.assert_no_deed(TooMany, 41, book, "put", 0, chain(41))
        book.put(0, chain(40))
        self.assert_tells(chain(40), book)

    def test_nothing_changed(self):
        book = Book(TREE)
        for joint, looks in ((0, 7), (1, 4), (2, 3), (3, 3), (4, 4), (5, 4), (6, 4)):
            book.put(joint, joints(TREE)[joint])
            self.assertEqual(looks, book.looks())
            self.assert_tells(TREE, book)
        for _ in range(7):
            book.undo()
        self.assert_no_deed(NothingToUndo, 0, book, "undo")

    def test_the_rows_of_other_joints_stay(self):
        book = Book(HOLDS)
        before = [book.row(joint) for joint in range(13)]
        book.put(3, read("rep 2([7])"))
        after = [book.row(joint) for joint in range(11)]
        # Joints 7 to 12 are joints 5 to 10 now.
        self.assertEqual(before[7:], after[5:])
        self.assertEqual(5, book.looks())
        self.assert_tells(read("cat(hold 6(rep 6(rep 2([7]))), hold 7(rep 5(sum(hold 16(rep 9([2]))))))"), book)


class ToldTest(BookCase):

    def test_each_joint(self):
        program = read("cat(hold 2(in xs 3), part 0 2(rep 2([4 5])))")
        for joint, told, text, looks in ((1, (9,), "cat(hold 9(in xs 3), part 0 2(rep 2([4 5])))", 2),
                                         (2, ("ys", 5), "cat(hold 2(in ys 5), part 0 2(rep 2([4 5])))", 3),
                                         (3, (1, 4), "cat(hold 2(in xs 3), part 1 4(rep 2([4 5])))", 2),
                                         (4, (3,), "cat(hold 2(in xs 3), part 0 2(rep 3([4 5])))", 3),
                                         (5, (6, 7, 8), "cat(hold 2(in xs 3), part 0 2(rep 2([6 7 8])))", 4)):
            book = Book(program)
            self.assertIsNone(book.told(joint, told))
            self.assertEqual(looks, book.looks())
            self.assert_tells(read(text), book)

    def test_joint_0(self):
        book = Book(read("hold 3(rev([1 2]))"))
        book.told(0, (7,))
        self.assertEqual(1, book.looks())
        self.assert_tells(read("hold 7(rev([1 2]))"), book)
        book = Book(row(1))
        book.told(0, (1, 2, 3))
        self.assertEqual(1, book.looks())
        self.assert_tells(row(1, 2, 3), book)

    def test_nothing_changed(self):
        book = Book(TREE)
        book.told(0, ())
        self.assertEqual(1, book.looks())
        book.told(6, (3,))
        self.assertEqual(4, book.looks())
        self.assert_tells(TREE, book)
        book.undo()
        book.undo()
        self.assert_no_deed(NothingToUndo, 0, book, "undo")


class RefusedDeedsTest(BookCase):

    def book(self):
        """A book of TREE with a deed that stands and one that is undone."""
        book = Book(read("cat([1], rev(rev([3])))"))
        book.put(1, read("cat([1], [2])"))
        book.put(2, read("[7 7]"))
        book.undo()
        return book

    def assert_stands_as_before(self, book):
        """Undo and redo do what they would have done."""
        self.assert_tells(TREE, book)
        book.redo()
        self.assert_tells(read("cat(cat([7 7], [2]), rev(rev([3])))"), book)
        self.assert_no_deed(NothingToRedo, 0, book, "redo")
        book.undo()
        book.undo()
        self.assert_tells(read("cat([1], rev(rev([3])))"), book)
        self.assert_no_deed(NothingToUndo, 0, book, "undo")

    def test_no_joints(self):
        book = self.book()
        for joint in NO_JOINTS + (7, None, "", "0", (), (0,), deep(90)):
            for thing in (row(1), None, chain(41)):
                self.assert_no_deed(BadJoint, joint, book, "put", joint, thing)
                self.assert_no_deed(BadJoint, joint, book, "told", joint, thing)
                self.assert_no_deed(BadJoint, joint, book, "told", joint, ())
        self.assert_stands_as_before(book)

    def test_programs_by_the_new_numbers_of_the_whole(self):
        book = self.book()
        for joint in range(7):
            for error, what, thing in NO_PROGRAMS:
                self.assert_no_deed(error, what if error is TooMany else what + joint, book, "put", joint, thing)
            for thing in NO_TRIPLES:
                self.assert_no_deed(BadProgram, joint, book, "put", joint, thing)
        self.assert_stands_as_before(book)

    def test_sizes_by_the_new_numbers_of_the_whole(self):
        book = self.book()
        for joint in range(7):
            for error, what, thing in NO_SIZES:
                expected = what if error is BadInput else what + joint
                self.assert_no_deed(error, expected, book, "put", joint, thing)
        self.assert_stands_as_before(book)

    def test_faults_of_joints_that_stand_already(self):
        # What is put is right by itself, but not beside the others.
        book = Book(read("add(cat(in a 1, in b 1), part 0 2(in c 4))"))
        self.assert_no_deed(Unequal, 0, book, "put", 1, row(1))
        self.assert_no_deed(Unequal, 0, book, "put", 2, row(1, 2))
        self.assert_no_deed(Unequal, 0, book, "put", 4, row(1))
        self.assert_no_deed(BadPart, 4, book, "put", 5, row(1))
        self.assert_no_deed(Unequal, 0, book, "put", 2, read("cat([1], [2])"))
        self.assert_no_deed(BadInput, "c", book, "put", 2, read("sum(in c 2)"))
        self.assert_no_deed(BadInput, "a", book, "put", 5, given("a", 4))
        book = Book(read("cat(in a 30, rep 2(in b 17))"))
        self.assert_no_deed(TooGreat, 0, book, "put", 1, given("a", 31))
        self.assert_no_deed(TooGreat, 2, book, "put", 3, given("b", 33))
        self.assert_no_deed(TooGreat, 2, book, "told", 2, (4,))
        self.assert_no_deed(TooGreat, 0, book, "told", 2, (3,))

    def test_told_things(self):
        book = self.book()
        for joint in range(7):
            for thing in (None, "", "xs", 0, 7):
                self.assert_no_deed(BadProgram, joint, book, "told", joint, thing)
            for thing in ((None,), ("xs",), (-1,), (1000003,), ((),), (0,) * 65, (0,) * 9000, deep(90)):
                self.assert_no_deed(BadOp, joint, book, "told", joint, thing)
        for joint in (0, 1, 4, 5):
            self.assert_no_deed(BadOp, joint, book, "told", joint, (1,))
        for joint in (2, 3, 6):
            self.assert_no_deed(BadOp, joint, book, "told", joint, ())
        self.assert_stands_as_before(book)

    def test_told_things_beside_others(self):
        book = Book(read("add(in a 4, cat(part 0 2(in b 2), in c 2))"))
        self.assert_no_deed(Unequal, 0, book, "told", 1, ("a", 3))
        self.assert_no_deed(Unequal, 0, book, "told", 5, ("c", 3))
        self.assert_no_deed(BadPart, 3, book, "told", 3, (0, 3))
        self.assert_no_deed(BadPart, 3, book, "told", 4, ("b", 1))
        self.assert_no_deed(BadInput, "a", book, "told", 5, ("a", 2))
        self.assert_no_deed(BadInput, "b", book, "told", 1, ("b", 4))
        book.told(1, ("d", 4))
        self.assert_tells(read("add(in d 4, cat(part 0 2(in b 2), in c 2))"), book)

    def test_the_whole_is_a_program_ahead_of_its_sizes(self):
        book = Book(read("add(in a 4, in b 4)"))
        self.assert_no_deed(BadParts, 1, book, "put", 1, ("in", ("b", 5), (row(1),)))
        self.assert_no_deed(BadOp, 2, book, "put", 2, ("in", ("a", 65), ()))
        self.assert_no_deed(Unequal, 0, book, "put", 2, given("a", 5))

    def test_rows_and_looks_are_those_of_before(self):
        book = Book(HOLDS)
        book.put(12, row(3))
        looks = book.looks()
        self.assertEqual(7, looks)
        for deed, arguments in (("put", (1, None)), ("told", (1, (65,))), ("put", (40, None)), ("redo", ()),
                                ("row", (40,))):
            self.assertIsNotNone(outcome(getattr(book, deed), *arguments))
            self.assertEqual(looks, book.looks())
        book.undo()
        self.assertEqual(0, book.looks())
        self.assertIsNotNone(outcome(book.undo))
        self.assertIsNotNone(outcome(book.put, 0, None))
        self.assertEqual(0, book.looks())


class UndoTest(BookCase):

    def test_undo_and_redo(self):
        book = Book(TREE)
        texts = ["cat(cat([1], [2]), rev(rev([3])))"]
        for joint, text, whole in ((2, "[7 7]", "cat(cat([7 7], [2]), rev(rev([3])))"),
                                   (4, "[8]", "cat(cat([7 7], [2]), [8])"),
                                   (0, "in xs 5", "in xs 5")):
            book.put(joint, read(text))
            texts.append(whole)
        book.told(0, ("ys", 6))
        texts.append("in ys 6")
        for _ in range(3):
            for text in texts[-2::-1]:
                self.assertIsNone(book.undo())
                self.assertEqual(0, book.looks())
                self.assert_tells(read(text), book)
            self.assert_no_deed(NothingToUndo, 0, book, "undo")
            for text in texts[1:]:
                self.assertIsNone(book.redo())
                self.assertEqual(0, book.looks())
                self.assert_tells(read(text), book)
            self.assert_no_deed(NothingToRedo, 0, book, "redo")

    def test_nothing_to_undo_or_redo(self):
        book = Book(TREE)
        self.assert_no_deed(NothingToUndo, 0, book, "undo")
        self.assert_no_deed(NothingToRedo, 0, book, "redo")
        self.assertEqual(7, book.looks())
        book.told(2, (5,))
        self.assert_no_deed(NothingToRedo, 0, book, "redo")
        self.assertEqual(3, book.looks())
        book.undo()
        self.assert_no_deed(NothingToUndo, 0, book, "undo")
        book.redo()
        self.assert_no_deed(NothingToRedo, 0, book, "redo")

    def test_a_granted_deed_forgets_what_was_undone(self):
        for deed, arguments in (("put", (2, row(9))), ("told", (2, (9,))), ("told", (2, (1,))), ("put", (0, TREE))):
            book = Book(TREE)
            book.put(2, row(7, 7))
            book.put(3, row(8, 8))
            book.undo()
            book.undo()
            self.assertIsNone(outcome(getattr(book, deed), *arguments))
            self.assert_no_deed(NothingToRedo, 0, book, "redo")
            book.undo()
            self.assert_tells(TREE, book)
            self.assert_no_deed(NothingToUndo, 0, book, "undo")
            book.redo()
            self.assert_no_deed(NothingToRedo, 0, book, "redo")

    def test_a_deed_behind_an_undo_and_its_own_undo(self):
        book = Book(TREE)
        book.put(2, row(7, 7))
        book.put(3, row(8, 8))
        book.undo()
        book.told(6, (4, 4))
        self.assert_tells(read("cat(cat([7 7], [2]), rev(rev([4 4])))"), book)
        book.undo()
        self.assert_tells(read("cat(cat([7 7], [2]), rev(rev([3])))"), book)
        book.undo()
        self.assert_tells(TREE, book)


class HundredDeedsTest(BookCase):

    def full(self):
        book = Book(row(0))
        for number in range(1, 101):
            if number % 2:
                book.told(0, (number,))
            else:
                book.put(0, row(number))
        return book

    def test_a_hundred_deeds_and_one_more(self):
        book = self.full()
        self.assert_tells(row(100), book)
        self.assert_no_deed(TooMany, 101, book, "told", 0, (7,))
        self.assert_no_deed(TooMany, 101, book, "told", 0, (100,))
        self.assert_no_deed(TooMany, 101, book, "put", 0, row(7))
        self.assertEqual(1, book.looks())
        for number in reversed(range(100)):
            book.undo()
            self.assertEqual(row(number), book.program())
        self.assert_no_deed(NothingToUndo, 0, book, "undo")
        for _ in range(100):
            book.redo()
        self.assert_tells(row(100), book)
        self.assert_no_deed(TooMany, 101, book, "put", 0, row(7))

    def test_deeds_that_are_undone_do_not_count(self):
        book = self.full()
        book.undo()
        book.put(0, row(7))
        self.assert_tells(row(7), book)
        self.assert_no_deed(TooMany, 101, book, "put", 0, row(8))
        for _ in range(30):
            book.undo()
        for number in range(30):
            book.told(0, (number,))
        self.assert_no_deed(TooMany, 101, book, "told", 0, (8,))
        # A deed that is refused does not forget what was undone.
        book.undo()
        book.redo()
        book.undo()
        self.assert_no_deed(BadOp, 0, book, "told", 0, ())
        book.redo()
        self.assert_tells(row(29), book)

    def test_refused_deeds_do_not_count(self):
        book = Book(row(0))
        for number in range(1, 101):
            self.assertEqual((BadOp, 0), outcome(book.told, 0, ()))
            self.assertEqual((BadJoint, 1), outcome(book.put, 1, row(1)))
            book.told(0, (number,))
        self.assert_no_deed(TooMany, 101, book, "told", 0, (7,))

    def test_all_other_errors_come_ahead(self):
        book = self.full()
        for joint in NO_JOINTS + (1, None):
            self.assert_no_deed(BadJoint, joint, book, "put", joint, row(1))
            self.assert_no_deed(BadJoint, joint, book, "told", joint, (1,))
        for error, what, thing in NO_PROGRAMS + NO_SIZES:
            self.assert_no_deed(error, what, book, "put", 0, thing)
        self.assert_no_deed(BadProgram, 0, book, "told", 0, None)
        self.assert_no_deed(BadOp, 0, book, "told", 0, (-1,))
        self.assert_no_deed(TooMany, 41, book, "put", 0, chain(41))
        self.assert_no_deed(TooMany, 101, book, "put", 0, chain(40))


class SideBySideTest(BookCase):

    def test_two_books(self):
        one, two = Book(TREE), Book(TREE)
        one.put(1, row(5))
        self.assert_tells(TREE, two)
        self.assertEqual(7, two.looks())
        self.assert_no_deed(NothingToUndo, 0, two, "undo")
        two.told(2, (4, 4))
        one.undo()
        self.assert_tells(TREE, one)
        self.assert_tells(read("cat(cat([4 4], [2]), rev(rev([3])))"), two)
        self.assert_no_deed(NothingToRedo, 0, two, "redo")
        self.assertEqual((0, 3), (one.looks(), two.looks()))
        one.redo()
        self.assert_tells(read("cat([5], rev(rev([3])))"), one)

    def test_what_a_book_is_handed_is_not_changed(self):
        program, new = read("cat([1], [2])"), read("rev([3])")
        book = Book(program)
        book.put(2, new)
        book.told(3, (9,))
        self.assertEqual(read("cat([1], [2])"), program)
        self.assertEqual(read("rev([3])"), new)


class DrawnDeedsTest(BookCase):

    def drawn_thing(self, dice, program):
        way = dice.randrange(10)
        if way < 6:
            return sized_program(dice, dice.randint(1, 12), dice.choice((1, 1, 2, 3, 4, 6)))
        if way < 8:
            return random_program(dice, dice.randint(1, 8))
        return dice.choice((dice.choice(joints(program)), dice.choice(NO_TRIPLES), over(row(1), 40)))

    def expected(self, joint, whole, deeds, joint_count):
        """What a deed that would make this whole program is refused with, or None."""
        if joint not in range(joint_count):
            return BadJoint, joint
        refusal = outcome(Book, whole())
        if not isinstance(refusal, Book):
            return refusal
        return (TooMany, 101) if deeds == 100 else None

    def try_deed(self, dice, book, done):
        """A drawn put or told, held against a second reckoning; returns the new program if it is granted."""
        program = done[-1]
        many = count(program)
        joint = dice.randrange(many) if dice.random() < 0.97 else dice.choice(NO_JOINTS)
        if dice.random() < 0.6:
            thing = self.drawn_thing(dice, program)
            expected = self.expected(joint, lambda: put_by_word(program, joint, thing), len(done) - 1, many)
            self.assertEqual(expected, outcome(book.put, joint, thing))
            made, looks = (lambda: put_by_word(program, joint, thing)), count(thing)
        else:
            op = joints(program)[joint][0] if joint in range(many) else "row"
            told = random_told(dice, op) if dice.random() < 0.8 else dice.choice(((), (1,), None, (0, 2)))
            expected = self.expected(joint, lambda: told_by_word(program, joint, told), len(done) - 1, many)
            self.assertEqual(expected, outcome(book.told, joint, told))
            made, looks = (lambda: told_by_word(program, joint, told)), 1
        if expected is not None:
            return None
        self.assertEqual(looks + depth(program, joint), book.looks())
        return made()

    def test_many_deeds(self):
        dice = random.Random(272)
        granted = refused = backs = 0
        for program in sized_programs(273, 12, 30):
            book = Book(program)
            done, undone = [program], []
            for _ in range(150):
                way = dice.random()
                looks = book.looks()
                if way < 0.12:
                    self.assertEqual(None if len(done) > 1 else (NothingToUndo, 0), outcome(book.undo))
                    looks = 0 if len(done) > 1 else looks
                    if len(done) > 1:
                        undone.append(done.pop())
                        backs += 1
                    self.assertEqual(looks, book.looks())
                elif way < 0.22:
                    self.assertEqual(None if undone else (NothingToRedo, 0), outcome(book.redo))
                    looks = 0 if undone else looks
                    if undone:
                        done.append(undone.pop())
                        backs += 1
                    self.assertEqual(looks, book.looks())
                else:
                    made = self.try_deed(dice, book, done)
                    if made is None:
                        refused += 1
                        self.assertEqual(looks, book.looks())
                    else:
                        granted += 1
                        done.append(made)
                        undone = []
                self.assert_tells(done[-1], book)
        self.assertGreater(min(granted, refused, backs), 200)


if __name__ == "__main__":
    unittest.main()
