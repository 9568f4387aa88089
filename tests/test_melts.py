"""Points 5, 6, 52 and 53: one call melted, and what a run tells then."""

import unittest

from callmelt.melts import melted_call
from callmelt.names import free_words
from callmelt.programs import Program, read_program
from callmelt.puts import put_in
from callmelt.reader import read_tree
from callmelt.runs import entered, run
from callmelt.texts import show_tree
from callmelt.trees import is_plain, is_tree, nodes, size_of, thawed
from tests.helper import grown_programs, replaced

PROGRAM = read_program("""(def f (a b) (+ a b))
(def k () 9)
(def g (a) (let b (+ a 1) (loop c a d 3 (f (+ b c) a))))
(def h (a b c d) (parts d (mark 7 c) b (many a)))
(def r (a) (if (< a 1) (raise q) (r (- a 1))))""")


class TestMeltedCall(unittest.TestCase):
    def check(self, call, melt):
        with self.subTest(call):
            found = melted_call(PROGRAM, read_tree(call))
            self.assertEqual(show_tree(found), melt)
            self.assertTrue(is_tree(found))
            self.assertEqual(thawed(found), read_tree(call))

    def test_no_args(self):
        self.check("(k)", "(melt k () 9)")

    def test_plain_args(self):
        self.check("(f 1 yes)", "(melt f ((a 1) (b yes)) (+ 1 yes))")
        self.check("(f x y)", "(melt f ((a x) (b y)) (+ x y))")
        self.check("(f b a)", "(melt f ((a b) (b a)) (+ b a))")

    def test_args_that_are_not_plain(self):
        self.check("(f (k) (+ b a))", "(melt f ((a (k)) (b (+ b a))) (+ a b))")
        self.check("(f (raise a) 2)", "(melt f ((a (raise a)) (b 2)) (+ a 2))")
        self.check("(h (parts) 1 x (k))", "(melt h ((a (parts)) (b 1) (c x) (d (k))) (parts d (mark 7 x) 1 (many a)))")

    def test_words_that_would_be_caught(self):
        self.check("(f b (k))", "(melt f ((a b) (b1 (k))) (+ b b1))")
        self.check("(f (k) a)", "(melt f ((a1 (k)) (b a)) (+ a1 a))")
        self.check("(g b)", "(melt g ((a b)) (let b1 (+ b 1) (loop c b d 3 (f (+ b1 c) b))))")
        self.check("(g c)", "(melt g ((a c)) (let b (+ c 1) (loop c1 c d 3 (f (+ b c1) c))))")
        self.check("(h d c b a)", "(melt h ((a d) (b c) (c b) (d a)) (parts a (mark 7 b) c (many d)))")

    def test_a_def_that_calls_itself(self):
        self.check("(r a)", "(melt r ((a a)) (if (< a 1) (raise q) (r (- a 1))))")
        self.check("(r (r 2))", "(melt r ((a (r 2))) (if (< a 1) (raise q) (r (- a 1))))")

    def test_args_that_bear_melts(self):
        call = read_tree("(f (melt f ((a 1) (b b)) (+ 1 b)) b)")
        self.assertEqual(show_tree(melted_call(PROGRAM, call)), "(melt f ((a (melt f ((a 1) (b b)) (+ 1 b))) (b b)) (+ a b))")
        call = read_tree("(f a (melt k () 9))")
        self.assertEqual(show_tree(melted_call(PROGRAM, call)), "(melt f ((a a) (b (melt k () 9))) (+ a b))")

    def test_nothing_handed_in_is_changed(self):
        program, call = Program(PROGRAM.defs()), read_tree("(f b (k))")
        melted_call(program, call)
        self.assertEqual((program, call), (PROGRAM, read_tree("(f b (k))")))


def sites(seed, many=150):
    """Programs, each with a def's name, the number of a call in its body, and that call."""
    for defs in grown_programs(many, seed):
        program = Program(defs)
        for name, params, body in defs:
            for number, node in enumerate(nodes(body)):
                if node[0] == "call":
                    yield program, name, number, node


class TestPromise(unittest.TestCase):
    def test_the_melt_is_as_told(self):
        for program, name, number, call in sites(52):
            melt = melted_call(program, call)
            params, body = program.params(call[1]), program.body(call[1])
            words, tree = put_in(params, call[2], body)
            self.assertEqual(melt, ("melt", call[1], tuple(zip(words, call[2])), tree))
            self.assertTrue(is_tree(melt))
            self.assertEqual(thawed(melt), call)

    def test_size(self):
        for program, name, number, call in sites(7):
            plain = len([arg for arg in call[2] if is_plain(arg)])
            body = program.body(name)
            melted = replaced(body, number, lambda call: melted_call(program, call))
            self.assertEqual(size_of(melted), size_of(body) + size_of(program.body(call[1])) - plain)
            self.assertEqual(thawed(melted), body)
            self.assertLessEqual(set(free_words(melted)), set(free_words(body)))

    def compare(self, program, name, number, call, args, fuel):
        """A run with one call melted tells the same as with the call, and pays less by the gain."""
        melted = replaced(program.body(name), number, lambda call: melted_call(program, call))
        own = run(program, name, args, fuel=fuel)
        found = run(program, name, args, fuel=fuel, body=melted)
        gain = 2 + len([arg for arg in call[2] if is_plain(arg)])
        times = dict(entered(program, name, args, deep=1, fuel=fuel)).get((name, number), 0)
        self.assertEqual(repr(found), repr(own[:3] + (own[3] - gain * times,)))
        return own[0], times

    def test_a_run_tells_the_same_and_pays_less_by_the_gain(self):
        outcomes, many_times = set(), 0
        for program, name, number, call in sites(5):
            params = program.params(name)
            for args in [[2] * len(params), [0, 1, 2, 3][:len(params)], [True, (1, 2), -1, ()][:len(params)]]:
                for fuel in [100, 60, 30, 12, 5]:
                    outcome, times = self.compare(program, name, number, call, args, fuel)
                    outcomes.add(outcome[0])
                    many_times += times > 1
        # The programs are such that all that may come of a run does.
        self.assertEqual(outcomes, {"told", "refused", "dry"})
        self.assertGreater(many_times, 10)

    def test_at_each_fuel(self):
        program = read_program("""(def m (a b) (try (loop c a d 3 (+ (g c) (f d (f b c)))) far (mark 1 (g b))))
(def g (a) (let b (mark 2 (+ a a)) (f b a)))
(def f (a b) (* (mark 3 a) b))""")
        for number, called, plain in program.sites("m"):
            call = nodes(program.body("m"))[number]
            for args in [[2, 3], [10 ** 9, 10 ** 9], [True, 1], [0, 10 ** 18]]:
                for fuel in range(101):
                    self.compare(program, "m", number, call, args, fuel)

    def test_places_in_melted_bodies(self):
        program = read_program("(def m (a) (+ 1 (f a (many (parts a)))))\n(def f (b c) (mark 1 (+ c (/ b 0))))")
        self.assertEqual(run(program, "m", [4]), (("refused", "nought", ("f", 3)), [], 7, 4))
        call = nodes(program.body("m"))[2]
        melted = replaced(program.body("m"), 2, lambda call: melted_call(program, call))
        self.assertEqual(run(program, "m", [4], body=melted), (("refused", "nought", ("f", 3)), [], 7, 1))
        self.compare(program, "m", 2, call, [4], 100)

    def test_each_arg_is_reckoned_where_the_call_stood_once_and_in_order(self):
        program = read_program("(def m (a) (let b 2 (f (mark 1 a) (mark 2 b))))\n(def f (b a) (parts a a b b))")
        melted = replaced(program.body("m"), 2, lambda call: melted_call(program, call))
        self.assertEqual(run(program, "m", [7], body=melted), (("told", (2, 2, 7, 7)), [1, 2], 5, 2))
        # Where the body never asks for it, too.
        program = read_program("(def m (a) (f (raise q)))\n(def f (b) 3)")
        melted = melted_call(program, program.body("m"))
        self.assertEqual(run(program, "m", [7], body=melted), (("refused", "q", ("m", 1)), [], 2, 0))

    def test_no_name_is_caught(self):
        program = read_program("(def m (a b) (let c 5 (f c b a)))\n(def f (a b d) (let c (+ a b) (loop b c a 2 (+ b d))))")
        own = run(program, "m", [10, 20])
        melted = replaced(program.body("m"), 2, lambda call: melted_call(program, call))
        self.assertEqual(own, (("told", 45), [], 9, 5))
        self.assertEqual(run(program, "m", [10, 20], body=melted), (("told", 45), [], 9, 0))


if __name__ == "__main__":
    unittest.main()
