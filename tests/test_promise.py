"""Points 5 and 6: a run tells the same, whichever calls are melted, and pays less by what was gained."""

import itertools
import unittest

from callmelt.choices import is_choice, melted
from callmelt.paths import gain_of
from callmelt.programs import Program, read_program
from callmelt.runs import entered, run
from callmelt.texts import show_tree
from tests.helper import TANGLED, grown_choices, grown_programs, rows_of_args


class TestPromise(unittest.TestCase):
    def compare(self, program, root, choice, args, fuels):
        """Runs with the root's body melted beside those with its own; told are the outcomes, where something was gained."""
        body = melted(program, root, choice)
        return [self.compare_one(program, root, choice, body, args, fuel) for fuel in fuels]

    def compare_one(self, program, root, choice, body, args, fuel):
        own = run(program, root, args, fuel=fuel)
        found = run(program, root, args, fuel=fuel, body=body)
        times = dict(entered(program, root, args, fuel=fuel))
        gained = sum(gain_of(program, path) * times.get(path, 0) for path in choice)
        # Written out, so that 1 and True are told apart.
        self.assertEqual(repr(found), repr(own[:3] + (own[3] - gained,)), (root, choice, args, fuel))
        return own[0][0] if gained > 0 else "nothing gained"

    def test_many_programs_choices_args_and_fuels(self):
        seen = []
        for defs in grown_programs(70, 5):
            program = Program(defs)
            for root in program.names():
                for choice in grown_choices(program, root, 3, 5):
                    for args in rows_of_args(program, root):
                        seen.extend(self.compare(program, root, choice, args, [100, 60, 11, 4]))
        for outcome in ["told", "refused", "dry"]:
            self.assertGreater(seen.count(outcome), 100, outcome)

    def test_programs_whose_defs_share_their_words(self):
        seen = []
        for text in TANGLED:
            program = read_program(text)
            for root in program.names():
                for choice in grown_choices(program, root, 12, 6):
                    for args in rows_of_args(program, root):
                        seen.extend(self.compare(program, root, choice, args, [100, 80, 47, 23]))
        for outcome in ["told", "refused", "dry"]:
            self.assertGreater(seen.count(outcome), 50, outcome)

    def test_each_fuel(self):
        for text in TANGLED:
            program = read_program(text)
            for choice in grown_choices(program, "m", 3, 44):
                self.compare(program, "m", choice, rows_of_args(program, "m")[0], range(101))

    def test_a_deep_choice_is_entered(self):
        program = read_program("(def m (a) (if (< a 1) (/ 7 a) (+ a (m (- a 1)))))")
        choice = [("m",) + (9,) * many for many in range(1, 6)]
        for start in range(7):
            own = run(program, "m", [start], fuel=100)
            self.assertEqual(own, (("refused", "nought", ("m", 4)), [], 5 * start + 3, 3 * start))
            found = run(program, "m", [start], fuel=100, body=melted(program, "m", choice))
            # Of each call 3 are paid; of a melt, whose one arg is not plain, 1.
            self.assertEqual(found, own[:3] + (3 * start - 2 * min(start, 5),))
            self.compare(program, "m", choice, [start], range(101))

    def test_marks_and_refusals_of_args(self):
        program = read_program("(def m (a) (f (mark 1 a) (f (mark 2 a) (g (mark 3 a)))))\n"
                               "(def f (a b) (parts (mark 4 b) (g a) a))\n(def g (b) (mark 5 (/ 6 b)))")
        choice = [("m", 0), ("m", 0, 3), ("m", 3), ("m", 6)]
        self.assertEqual(show_tree(melted(program, "m", choice)),
                         "(melt f ((a (mark 1 a)) (b (melt f ((a (mark 2 a)) (b (melt g ((b (mark 3 a))) "
                         "(mark 5 (/ 6 b))))) (parts (mark 4 b) (g a) a)))) "
                         "(parts (mark 4 b) (melt g ((b a)) (mark 5 (/ 6 a))) a))")
        for value in [2, 0, True, ()]:
            self.compare(program, "m", choice, [value], range(40))
        self.assertEqual(run(program, "m", [2], fuel=100, body=melted(program, "m", choice)),
                         (("told", ((3, 3, 2), 3, 2)), [1, 2, 3, 5, 4, 5, 4, 5], 18, 8))

    def test_no_name_is_caught(self):
        # Each def binds the words of the others, with other values.
        program = read_program("(def m (a b) (let c 3 (f c (g b a) b)))\n"
                               "(def f (b a c) (let c1 (* 10 a) (g c1 (g (+ c c1) b))))\n"
                               "(def g (c a) (loop b a a1 2 (+ (* b 100) (+ c a1))))")
        own = run(program, "m", [1, 2], fuel=100)
        self.assertEqual(own[0][0], "told")
        paths = [("m", 2), ("m", 2, 4), ("m", 2, 6), ("m", 4)]
        choices = [list(choice) for many in range(5) for choice in itertools.combinations(paths, many)]
        choices = [choice for choice in choices if is_choice(program, "m", choice)]
        self.assertEqual(len(choices), 10)
        for choice in choices:
            self.compare(program, "m", choice, [1, 2], range(101))


if __name__ == "__main__":
    unittest.main()
