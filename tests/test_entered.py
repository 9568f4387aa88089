"""Points 45 and 46: which paths a run enters, and how often."""

import unittest

from callmelt.errors import BadRun, NoDef
from callmelt.programs import Program, read_program
from callmelt.runs import entered, run
from tests.helper import OTHER_THINGS, grown_programs, nested_lists, nested_tuples, shown

REST = """(def f (a b) (* a b))
(def k () 9)
(def g (c) (+ (k) (f c (k))))
(def r (a) (+ (k) (r a)))
(def t (a) (if (< a 1) 0 (+ 1 (t (- a 1)))))
(def s () (+ (k) (raise q)))"""


def with_main(text):
    return read_program(f"(def main () {text})\n{REST}")


class TestEntered(unittest.TestCase):
    def check(self, text, wanted, **keywords):
        """What is entered, written as the numbers of each path without the root, and how often."""
        with self.subTest(text):
            found = entered(with_main(text), "main", [], **keywords)
            self.assertIsInstance(found, list)
            self.assertEqual(found, [(("main",) + path, many) for path, many in wanted])

    def test_nothing(self):
        for text in ["7", "(+ 1 2)", "(raise q)", "(if yes 1 (k))", "(loop c 0 d 0 (k))"]:
            self.check(text, [])

    def test_one_call(self):
        self.check("(k)", [((0,), 1)])
        self.check("(+ 1 (f 2 3))", [((2,), 1)])

    def test_calls_within_bodies(self):
        self.check("(g 1)", [((0,), 1), ((0, 1), 1), ((0, 2), 1), ((0, 4), 1)])
        self.check("(+ (g 1) (k))", [((1,), 1), ((1, 1), 1), ((1, 2), 1), ((1, 4), 1), ((3,), 1)])

    def test_each_time_it_is_entered(self):
        self.check("(loop c 0 d 5 (k))", [((3,), 5)])
        self.check("(loop c 0 d 3 (g d))", [((3,), 3), ((3, 1), 3), ((3, 2), 3), ((3, 4), 3)])
        self.check("(loop c (k) d (k) (if (< d 2) (f c d) (k)))", [((1,), 1), ((2,), 1), ((7,), 2), ((10,), 7)])

    def test_calls_in_args_are_of_the_body_in_which_they_are_written(self):
        self.check("(f (k) (f 1 (k)))", [((0,), 1), ((1,), 1), ((2,), 1), ((4,), 1)])
        self.check("(g (g 1))", [((0,), 1), ((0, 1), 1), ((0, 2), 1), ((0, 4), 1),
                                 ((1,), 1), ((1, 1), 1), ((1, 2), 1), ((1, 4), 1)])

    def test_a_call_that_has_not_paid_is_not_entered(self):
        self.check("(f (k) (raise q))", [((1,), 1)])
        self.check("(f 1 (s))", [((2,), 1), ((2, 1), 1)])
        self.check("(try (f (k) (f 1 (raise q))) q (k))", [((2,), 1), ((6,), 1)])

    def test_refused_runs(self):
        self.check("(s)", [((0,), 1), ((0, 1), 1)])
        self.check("(+ (k) (+ (s) (k)))", [((1,), 1), ((3,), 1), ((3, 1), 1)])
        self.check("(f 1 yes)", [((0,), 1)])

    def test_dry_runs(self):
        self.check("(loop c 0 d 9 (k))", [], fuel=0)
        self.check("(loop c 0 d 9 (k))", [], fuel=2)
        self.check("(loop c 0 d 9 (k))", [((3,), 1)], fuel=3)
        self.check("(loop c 0 d 9 (k))", [((3,), 1)], fuel=4)
        self.check("(loop c 0 d 9 (k))", [((3,), 2)], fuel=5)
        self.check("(f (k) (k))", [((1,), 1)], fuel=2)
        self.check("(f (k) (k))", [((0,), 1), ((1,), 1), ((2,), 1)], fuel=3)
        # A price is paid ahead of the tick that the body does not get.
        self.check("(s)", [((0,), 1)], fuel=1)

    def test_the_fuel_is_60_where_none_is_told(self):
        self.check("(loop c 0 d 50 (k))", [((3,), 29)])
        self.check("(loop c 0 d 50 (k))", [((3,), 29)], fuel=60)
        self.check("(loop c 0 d 50 (k))", [((3,), 49)], fuel=100)

    def test_a_def_that_calls_itself(self):
        found = entered(with_main("0"), "t", [2])
        self.assertEqual(found, [(("t", 7), 1), (("t", 7, 7), 1)])
        program = read_program("(def t (a) (if (< a 1) 0 (+ (t (- a 1)) (t (- a 1)))))")
        self.assertEqual(entered(program, "t", [2]), [
            (("t", 6), 1), (("t", 6, 6), 1), (("t", 6, 10), 1), (("t", 10), 1), (("t", 10, 6), 1), (("t", 10, 10), 1),
        ])

    def test_each_deep(self):
        self.check("(r 1)", [((0,), 1)], deep=1)
        self.check("(r 1)", [((0,), 1), ((0, 1), 1), ((0, 2), 1)], deep=2)
        self.check("(r 1)", [((0,), 1), ((0, 1), 1), ((0, 2), 1), ((0, 2, 1), 1), ((0, 2, 2), 1)], deep=3)
        for deep in range(1, 6):
            found = entered(with_main("(r 1)"), "main", [], deep=deep)
            self.assertEqual(len(found), 2 * deep - 1)
            self.assertEqual(max(len(path) for path, many in found), deep + 1)
        self.assertEqual(entered(with_main("(r 1)"), "main", []), found)
        self.assertEqual(entered(with_main("(r 1)"), "main", [], deep=6), found)

    def test_no_path_is_longer_where_a_def_calls_itself_many_times(self):
        program = read_program("(def h () (h))")
        paths = [("h",) + (0,) * many for many in range(1, 6)]
        self.assertEqual(entered(program, "h", [], fuel=100), [(path, 1) for path in paths])
        self.assertEqual(entered(program, "h", [], fuel=2), [(path, 1) for path in paths[:2]])

    def test_sorted(self):
        program = read_program("(def m () (+ (+ (let a (k) (f 1 2)) 1) (if (= (k) 9) (f 2 3) (k))))\n" + REST)
        found = entered(program, "m", [])
        self.assertEqual(found, [(("m", 3), 1), (("m", 4), 1), (("m", 10), 1), (("m", 12), 1)])
        # The args are entered ahead of the call, and the later turns' call ahead of the first one's.
        self.check("(f (g 1) 2)", [((0,), 1), ((1,), 1), ((1, 1), 1), ((1, 2), 1), ((1, 4), 1)])
        self.check("(loop c 0 d 2 (if (= d 1) (k) (f 1 d)))", [((7,), 1), ((8,), 1)])

    def test_the_args_matter(self):
        program = with_main("0")
        self.assertEqual(entered(program, "t", [0]), [])
        self.assertEqual(len(entered(program, "t", [1])), 1)
        self.assertEqual(len(entered(program, "t", [9], fuel=100)), 5)

    def test_the_price_is_what_all_that_is_entered_pays(self):
        for defs in grown_programs(80, 46):
            program = Program(defs)
            name, params, body = defs[-1]
            args = [2] * len(params)
            for fuel in [5, 20, 60]:
                # Where no path is longer than five numbers, the run has paid for these alone.
                found = entered(program, name, args, fuel=fuel)
                paid = sum(many * self.price_of(program, path) for path, many in found)
                price = run(program, name, args, fuel=fuel)[3]
                if all(len(path) < 6 for path, many in found):
                    self.assertEqual(paid, price)
                self.assertLessEqual(paid, price)
                self.assertEqual(found, sorted(found))
                self.assertEqual(len(set(path for path, many in found)), len(found))

    def price_of(self, program, path):
        home = path[0]
        for number in path[1:]:
            home = [called for at, called, plain in program.sites(home) if at == number][0]
        return 2 + len(program.params(home))


class TestRefused(unittest.TestCase):
    def test_no_def(self):
        for root in OTHER_THINGS + ["z", ["main"], ("main",), nested_lists(200), 10 ** 5000]:
            for args in [[], None, [None]]:
                with self.assertRaises(NoDef) as caught:
                    entered(with_main("0"), root, args)
                self.assertIs(caught.exception.name, root)

    def test_bad_run(self):
        for args in OTHER_THINGS + [[1], [1, 2, 3], [1, None], [(1,) * 5, 1], (1, 2), [1, 10 ** 18 + 1], nested_tuples(9)]:
            with self.subTest(shown(args)):
                with self.assertRaises(BadRun) as caught:
                    entered(with_main("0"), "f", args)
                self.assertEqual(caught.exception.at, 0)


class TestKept(unittest.TestCase):
    def test_the_list_is_the_askers_own(self):
        program, args = with_main("0"), [3]
        one = entered(program, "g", args)
        other = entered(program, "g", args)
        one.clear()
        self.assertEqual(len(other), 3)
        self.assertEqual(entered(program, "g", args), other)
        self.assertEqual((args, program), ([3], with_main("0")))


if __name__ == "__main__":
    unittest.main()
