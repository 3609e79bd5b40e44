"""[26]: several programs in one heap."""

import random
import unittest

from hillrooms.company import together
from hillrooms.errors import TooMany
from hillrooms.least import least_peak, row_of
from hillrooms.leastorders import least_order
from hillrooms.reader import read
from tests.reckoner import worked_out
from tests.refusals import NO_PROGRAMS, NO_SIZES
from tests.runs import weave_by_word
from tests.samples import HOLDS, TREE
from tests.trees import Case, bush, chain, count, given, parts_by_number, row, sized_programs


class Company:
    """Several programs, and what is held while they run."""

    def __init__(self, programs):
        self.programs = programs
        self.facts = [worked_out(program) for program in programs]
        self.parts = [parts_by_number(program) for program in programs]
        self.steps = [(index, joint) for index, program in enumerate(programs) for joint in range(count(program))]
        self.whole = {(index, part): (index, joint) for index, joint in self.steps
                      for part in self.parts[index][joint]}

    def may_come(self, made):
        """The steps that may come next."""
        return [(index, joint) for index, joint in self.steps if (index, joint) not in made
                and all((index, part) in made for part in self.parts[index][joint])]

    def needed(self, made, step):
        """The cells that a step needs, where made are all steps before it; results are held to the end."""
        held = sum(self.facts[index][joint][0] for index, joint in made
                   if self.whole.get((index, joint)) not in made)
        size, room, _ = self.facts[step[0]][step[1]]
        return held + size + room

    def peak(self, order):
        return max(self.needed(order[:index], step) for index, step in enumerate(order))

    def least(self):
        """The least peak of all ways to run all programs."""
        best = {frozenset(): 0}
        for _ in self.steps:
            after = {}
            for made, peak in best.items():
                for step in self.may_come(made):
                    found = max(peak, self.needed(made, step))
                    key = made | {step}
                    after[key] = min(after.get(key, found), found)
            best = after
        return best[frozenset(self.steps)]

    def random_order(self, dice):
        order = []
        while len(order) < len(self.steps):
            order.append(dice.choice(self.may_come(order)))
        return tuple(order)


def together_by_word(programs):
    rows = []
    for index, program in enumerate(programs):
        rows.append(tuple((hill, valley, tuple((index, joint) for joint in steps))
                          for hill, valley, steps in row_of(program, 0)))
    woven = weave_by_word(rows)
    return max(hill for hill, _, _ in woven), sum((steps for _, _, steps in woven), ())


def few(dice, most_programs, most_joints):
    """A tuple of small programs, so many joints in all at most."""
    while True:
        programs = tuple(sized_programs(dice.random(), dice.randint(1, most_programs), 7))
        if sum(count(program) for program in programs) <= most_joints:
            return programs


class TogetherTest(Case):

    def check(self, expected, *texts):
        self.assertEqual(expected, together(tuple(read(text) for text in texts)), texts)

    def test_the_example(self):
        self.check((2, ((0, 0), (1, 0))), "[1]", "[2]")

    def test_programs_that_take_turns(self):
        # Their rows are those of the example in [12], with falls of 35 and 12, and of 33 and 12.
        one, two = HOLDS[2]
        first = tuple((0, joint) for joint in (5, 4, 3, 2))
        second = tuple((1, joint) for joint in (5, 4, 3, 2))
        self.assertEqual((36, first + second + ((0, 1), (0, 0), (1, 1), (1, 0))), together((one, two)))
        self.assertEqual((36, second + first + ((0, 1), (0, 0), (1, 1), (1, 0))), together((two, one)))

    def test_equal_falls_by_the_earlier_program(self):
        # Each of them falls by 3; the row of the first one is ((4, 1),).
        self.check((5, ((0, 1), (0, 0), (1, 1), (1, 0))), "sum([1 2 3])", "sum([4 5 6])")
        self.check((6, ((0, 1), (0, 0), (1, 1), (1, 0), (2, 1), (2, 0))), *["sum([1 2 3])"] * 3)
        self.check((5, ((0, 0), (1, 0), (2, 0), (3, 0), (4, 0))), "[1]", "[2]", "in xs 1", "[3]", "[4]")
        # A fall of nothing stands behind one of three, whichever is earlier.
        self.check((4, ((1, 1), (1, 0), (0, 0))), "[7]", "sum([1 2 3])")
        self.check((4, ((0, 1), (0, 0), (1, 0))), "sum([1 2 3])", "[7]")

    def test_names_that_do_not_agree(self):
        self.check((5, ((0, 0), (1, 0))), "in xs 2", "in xs 3")
        self.assertEqual((3, ((0, 0), (1, 0))), together((given("a", 1), given("a", 2))))

    def test_the_same_program_twice(self):
        peak, order = together((TREE, TREE))
        self.assertEqual(together_by_word((TREE, TREE)), (peak, order))
        self.assertEqual(Company((TREE, TREE)).least(), peak)
        self.assertEqual(tuple(joint for index, joint in order if index == 0),
                         tuple(joint for index, joint in order if index == 1))

    def test_one_program_alone(self):
        for program in sized_programs(261, 100, 40) + [HOLDS, bush(40), chain(40)]:
            peak, order = together((program,))
            self.assertEqual(least_peak(program), peak)
            self.assertEqual(tuple((0, joint) for joint in least_order(program)), order)

    def test_six_programs(self):
        programs = tuple(sized_programs(262, 6, 6))
        self.assertEqual(together_by_word(programs), together(programs))
        self.assertEqual((6, tuple((index, 0) for index in range(6))), together((row(1),) * 6))

    def test_forty_joints_in_all(self):
        self.assertEqual(40, len(together((chain(20), chain(20)))[1]))
        self.assertEqual(40, len(together((chain(35), row(1), row(1), row(1), row(1), row(1)))[1]))

    def test_kinds_and_names_of_arguments(self):
        found = together(programs=(row(1), row(2)))
        self.assertEqual((2, ((0, 0), (1, 0))), found)
        self.assertEqual([tuple, int, tuple, tuple],
                         [thing.__class__ for thing in (found, found[0], found[1], found[1][0])])

    def test_many_programs_against_the_words(self):
        dice = random.Random(263)
        for _ in range(300):
            programs = few(dice, 6, 40)
            self.assertEqual(together_by_word(programs), together(programs))

    def test_the_order_is_one_of_all_programs_and_has_the_peak(self):
        dice = random.Random(264)
        for _ in range(150):
            programs = few(dice, 6, 40)
            company = Company(programs)
            peak, order = together(programs)
            self.assertEqual(company.steps, sorted(order))
            for index, step in enumerate(order):
                self.assertIn(step, company.may_come(order[:index]))
            self.assertEqual(peak, company.peak(order))

    def test_no_other_way_needs_less(self):
        dice = random.Random(265)
        turns = 0
        for _ in range(120):
            programs = few(dice, 4, 11)
            peak, order = together(programs)
            self.assertEqual(Company(programs).least(), peak)
            turns += order != tuple(sorted(order, key=lambda step: step[0]))
        self.assertGreater(turns, 20)

    def test_drawn_ways_need_no_less(self):
        dice = random.Random(266)
        for _ in range(40):
            programs = few(dice, 6, 40)
            peak, _ = together(programs)
            for _ in range(5):
                self.assertLessEqual(peak, Company(programs).peak(Company(programs).random_order(dice)))


class TogetherRefusalsTest(Case):

    def test_none_and_seven(self):
        self.assert_refused(TooMany, 0, together, ())
        for many in (7, 8, 41, 1000):
            self.assert_refused(TooMany, many, together, (row(1),) * many)
            self.assert_refused(TooMany, many, together, (None,) * many)

    def test_refused_programs_in_turn(self):
        refused = NO_PROGRAMS + NO_SIZES
        for error, what, thing in refused:
            self.assert_refused(error, what, together, (thing,))
            self.assert_refused(error, what, together, (row(1), thing))
            self.assert_refused(error, what, together, (row(1), chain(40), row(1), row(1), row(1), thing))
            for _, _, other in refused:
                self.assert_refused(error, what, together, (row(1), thing, other))

    def test_too_many_joints_in_all(self):
        self.assert_refused(TooMany, 41, together, (chain(40), row(1)))
        self.assert_refused(TooMany, 41, together, (chain(20), chain(20), row(1)))
        self.assert_refused(TooMany, 45, together, (chain(40),) + (row(1),) * 5)
        self.assert_refused(TooMany, 240, together, (chain(40),) * 6)
        self.assert_refused(TooMany, 47, together, (TREE, chain(40)))


if __name__ == "__main__":
    unittest.main()
