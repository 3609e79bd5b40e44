"""[25]: code judged by what the program tells."""

import random
import unittest

from hillrooms.errors import Refused
from hillrooms.machine import code_right, run
from hillrooms.plainly import plain
from hillrooms.reader import read
from tests.coderows import NO_ROWS, wrong_rows
from tests.machines import INPUTS, outcome, running_codes, spoilt_code
from tests.refusals import NO_PROGRAMS, NO_SIZES
from tests.trees import NO_TRIPLES, Case, deep, given, on, row

REPS = read("rep 2(rep 2([1]))")
REPS_CODE = (
    ("row", 0, (1,)), ("do", "rep", (2,), ((0, 1),), 1, 0, 0), ("move", 1, 0, 2),
    ("do", "rep", (2,), ((0, 2),), 2, 0, 0), ("out", 2, 4),
)
SORT = read("sort(in xs 3)")
SORT_CODE = (("in", 0, "xs", 3), ("do", "sort", (), ((0, 3),), 3, 6, 3), ("out", 3, 3))
XS = (("xs", (3, 1, 2)),)

ODD = (None, "", "xs", 0, -1, 10 ** 30, (), (0,), (None,), ((),), (("xs",),), deep(90), (0,) * 9000)


class CodeRightTest(Case):

    def check(self, expected, *things):
        self.assertIs(expected, code_right(*things), things)

    def test_code_that_runs_and_tells_the_value(self):
        self.check(True, REPS, 6, REPS_CODE, ())
        self.check(True, REPS, 10000, REPS_CODE, ())
        self.check(True, SORT, 9, SORT_CODE, XS)
        self.assertIs(True, code_right(program=SORT, heap=9, code=SORT_CODE, inputs=XS))

    def test_another_program_with_the_same_value(self):
        for text in ("[1 1 1 1]", "rep 4([1])", "cat([1], [1], [1], [1])", "sort(rep 2([1 1]))"):
            self.check(True, read(text), 6, REPS_CODE, ())
        for text in ("[1 2 3]", "cat([1], [2 3])", "rev(rev(sort(in xs 3)))", "add(in no 3, in no 3)"):
            self.check(True, read(text), 9, SORT_CODE, XS + (("no", (500002, 1, 500003)),))

    def test_another_value(self):
        for text in ("[1]", "[1 1 1]", "[1 1 1 1 1]", "[1 1 1 2]", "rep 3([1])"):
            self.check(False, read(text), 6, REPS_CODE, ())
        for text in ("in xs 3", "rev(sort(in xs 3))", "[1 2]"):
            self.check(False, read(text), 9, SORT_CODE, XS)
        self.check(True, SORT, 9, SORT_CODE, (("xs", (5, 5, 5)),))
        self.check(True, read("in xs 3"), 9, SORT_CODE, (("xs", (5, 5, 5)),))

    def test_code_that_does_not_run(self):
        self.check(False, REPS, 5, REPS_CODE, ())
        self.check(False, REPS, -1, REPS_CODE, ())
        self.check(False, REPS, 10001, REPS_CODE, ())
        self.check(False, REPS, 6, REPS_CODE[:-1], ())
        self.check(False, REPS, 6, REPS_CODE[1:], ())
        self.check(False, REPS, 6, REPS_CODE[:2] + REPS_CODE[3:], ())
        self.check(False, REPS, 9, (("row", 7, (1,)),) + REPS_CODE, ())
        self.check(False, REPS, 9, REPS_CODE + (REPS_CODE[-1],), ())

    def test_what_plain_refuses(self):
        # The code does without the input, or is content with another one.
        code = (("row", 0, (5, 5)), ("out", 0, 2))
        self.check(True, row(5, 5), 2, code, ())
        self.check(True, given("xs", 2), 2, code, (("xs", (5, 5)),))
        for inputs in ((), (("ys", (5, 5)),), (("xs", (5,)),), (("xs", (5, 5, 5)),), (("xs", None),),
                       (("xs", (5, -5)),)):
            self.check(False, given("xs", 2), 2, code, inputs)
        self.check(False, read("part 0 2(cat(in xs 2, in ys 1))"), 2, code, (("xs", (5, 5)),))
        self.check(True, read("part 0 2(cat(in xs 2, in ys 1))"), 2, code, (("xs", (5, 5)), ("ys", (1,))))

    def test_what_run_refuses(self):
        self.check(False, read("[1 2 3]"), 9, SORT_CODE, ())
        self.check(False, read("[1 2 3]"), 9, SORT_CODE, (("xs", (3, 1)),))
        self.check(False, read("[1 2 3]"), 9, SORT_CODE, (("xs", (3, 1, 1000003)),))
        self.check(False, read("[1 2 3]"), 8, SORT_CODE, XS)
        self.check(True, read("[1 2 3]"), 9, SORT_CODE, XS)

    def test_codes_with_the_rows_that_they_tell(self):
        dice = random.Random(251)
        answers = {True: 0, False: 0}
        for code in running_codes(252, 300, 24):
            self.check(True, row(*run(24, code, INPUTS)[0]), 24, code, INPUTS)
            value = run(24, code, INPUTS)[0]
            for _ in range(3):
                spoilt = spoilt_code(dice, code)
                expected = outcome(24, spoilt, INPUTS)[0] == value
                self.check(expected, row(*value), 24, spoilt, INPUTS)
                answers[expected] += 1
        self.assertGreater(min(answers.values()), 50)


class OddThingsTest(Case):

    def check_false(self, *things):
        self.assertIs(False, code_right(*things), things)

    def test_things_of_any_kind_in_the_place_of_each_argument(self):
        for thing in ODD + NO_TRIPLES:
            self.check_false(thing, 9, SORT_CODE, XS)
            self.check_false(SORT, 9, thing, XS)
            self.check_false(SORT, 9, SORT_CODE, thing)
            self.check_false(thing, thing, thing, thing)

    def test_programs_that_are_refused(self):
        code = (("row", 0, (1,)), ("out", 0, 1))
        for _, _, thing in NO_PROGRAMS + NO_SIZES:
            self.check_false(thing, 9, code, ())
            self.check_false(thing, 9, code, (("a", (1,)),))
            self.check_false(on("sum", thing), 9, code, (("a", (1,)),))

    def test_heaps(self):
        for heap in (None, "", "9", (), (9,), -1, 10001, 10 ** 30, deep(90)):
            self.check_false(SORT, heap, SORT_CODE, XS)

    def test_things_of_any_kind_in_the_place_of_a_row(self):
        for thing in NO_ROWS + tuple(wrong_rows()):
            self.check_false(SORT, 9, (thing,) + SORT_CODE, XS)
            self.check_false(SORT, 9, SORT_CODE[:1] + (thing,) + SORT_CODE[2:], XS)
            self.check_false(SORT, 9, SORT_CODE[:2] + (thing,), XS)
            self.check_false(SORT, 9, (thing,), XS)

    def test_inputs_of_other_kinds(self):
        for thing in (None, "", "xs", 0, -1, XS[0], (XS[0], None), (None, XS[0]), (XS[0], ()), (XS[0], ("ys",)),
                      (XS[0], ("ys", (1,), 2)), (XS[0], "ys"), (XS[0], (None, (1,))), (XS[0], (0, (1,))),
                      (XS[0], ((), (1,))), (XS[0], (("xs",), (1,))), ((("xs", (3, 1, 2)),),), (("xs", 3, 1, 2),)):
            self.check_false(SORT, 9, SORT_CODE, thing)
            self.check_false(REPS, 6, REPS_CODE, thing)

    def test_a_name_twice(self):
        for others in ((("xs", (3, 1, 2)),), (("xs", (1,)),), (("xs", None),), (("ys", 1), ("ys", 1)),
                       (("", 1), ("", 2)), (("ys", 1), ("zs", 2), ("ys", 3))):
            self.check_false(SORT, 9, SORT_CODE, XS + others)
            self.check_false(SORT, 9, SORT_CODE, others + XS)
            self.check_false(REPS, 6, REPS_CODE, XS + others)

    def test_other_inputs_are_not_looked_at(self):
        for thing in ODD + NO_TRIPLES:
            for name in ("", "ys", "XS", "x", "xss", "a b", "abcdefghi"):
                self.assertIs(True, code_right(SORT, 9, SORT_CODE, XS + ((name, thing),)))
                self.assertIs(True, code_right(REPS, 6, REPS_CODE, ((name, thing),)))

    def test_an_input_of_any_kind(self):
        for thing in ODD + ((3, 1), (3, 1, 2, 4), (3, 1, -1), (3, 1, 1000003), (3, 1, None), (3, 1, "2"), (3, 1, (2,)),
                            (3, 1, deep(90)), "312"):
            self.check_false(SORT, 9, SORT_CODE, (("xs", thing),))

    def test_true_just_where_both_raise_nothing_and_tell_one_value(self):
        dice = random.Random(253)
        programs = (SORT, REPS, given("xs", 3), read("rev(in xs 3)"), read("[1 2 3]"), None, read("add([1], [1 2])"))
        codes = (SORT_CODE, REPS_CODE, SORT_CODE[:2], (), (None,))
        inputs = ((), XS, (("xs", (1, 2, 3)),), (("xs", (3, 2, 1)),), (("xs", (1, 2)),), (("ys", (1, 2, 3)),))
        answers = {True: 0, False: 0}
        for _ in range(4000):
            things = (dice.choice(programs), dice.choice((9, 8, 6, 5, -1)), dice.choice(codes), dice.choice(inputs))
            expected = self.both(*things)
            self.assertIs(expected, code_right(*things), things)
            answers[expected] += 1
        self.assertGreater(min(answers.values()), 50)

    def both(self, program, heap, code, inputs):
        try:
            return run(heap, code, inputs)[0] == plain(program, inputs)
        except Refused:
            return False


if __name__ == "__main__":
    unittest.main()
