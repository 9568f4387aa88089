"""Points 40 to 44, and 2 to 4 of what runs are asked: what a run tells."""

import unittest

from callmelt.errors import BadRun, NoDef
from callmelt.programs import Program, read_program
from callmelt.reader import read_tree
from callmelt.runs import FUEL, run
from callmelt.trees import is_tree, nodes
from tests.helper import ONE, OTHER_THINGS, grown_programs, nested_lists, nested_tuples, of_depth, of_size, shown

REST = """(def f (a b) (* a b))
(def k () 9)
(def r (a) (mark 5 (r (+ a 1))))
(def w (c) (try (raise c) d (mark 8 c)))
(def s () (+ 1 (many (parts (raise q)))))"""
ARGS = [5, (1, True)]


def told(value):
    return ("told", value)


def refused(word, number, home="main"):
    return ("refused", word, (home, number))


def with_main(text):
    """A program whose def main has the params a, b and this body."""
    return read_program(f"(def main (a b) {text})\n{REST}")


class Runs(unittest.TestCase):
    def check(self, text, outcome, marks, ticks, price, fuel=100):
        """A run of main by its own body, and by the same body handed in."""
        program = with_main(text)
        with self.subTest(text):
            # The texts tell 1 and True apart, too.
            wanted = repr((outcome, marks, ticks, price))
            self.assertEqual(repr(run(program, "main", list(ARGS), fuel=fuel)), wanted)
            self.assertEqual(repr(run(program, "main", list(ARGS), fuel=fuel, body=read_tree(text))), wanted)

    def check_body(self, text, outcome, marks, ticks, price, fuel=100):
        """A run of main by a body handed in, which may bear melts."""
        with self.subTest(text):
            found = run(with_main("0"), "main", list(ARGS), fuel=fuel, body=read_tree(text))
            self.assertEqual(repr(found), repr((outcome, marks, ticks, price)))


class TestKinds(Runs):
    def test_plain(self):
        self.check("7", told(7), [], 0, 0)
        self.check("yes", told(True), [], 0, 0)
        self.check("no", told(False), [], 0, 0)
        self.check("a", told(5), [], 0, 0)
        self.check("b", told((1, True)), [], 0, 0)

    def test_do(self):
        self.check("(+ 1 2)", told(3), [], 1, 0)
        self.check("(- a 7)", told(-2), [], 1, 0)
        self.check("(* 2 3)", told(6), [], 1, 0)
        self.check("(/ 7 2)", told(3), [], 1, 0)
        self.check("(< 1 2)", told(True), [], 1, 0)
        self.check("(= b (parts 1 yes))", told(True), [], 2, 0)
        self.check("(= b (parts 1 1))", told(False), [], 2, 0)
        self.check("(- (mark 1 a) (mark 2 3))", told(2), [1, 2], 3, 0)

    def test_parts(self):
        self.check("(parts)", told(()), [], 1, 0)
        self.check("(parts 1 yes (parts) b)", told((1, True, (), (1, True))), [], 2, 0)
        self.check("(parts (mark 3 1) (mark 2 1) (mark 1 1))", told((1, 1, 1)), [3, 2, 1], 4, 0)

    def test_pick_and_many(self):
        self.check("(pick 1 b)", told(1), [], 1, 0)
        self.check("(pick 2 (mark 4 b))", told(True), [4], 2, 0)
        self.check("(many b)", told(2), [], 1, 0)
        self.check("(many (parts))", told(0), [], 2, 0)

    def test_if(self):
        self.check("(if (< 1 2) (mark 1 10) (mark 2 20))", told(10), [1], 3, 0)
        self.check("(if (mark 3 no) (mark 1 10) (mark 2 20))", told(20), [3, 2], 3, 0)
        self.check("(if yes 1 (raise q))", told(1), [], 1, 0)

    def test_let(self):
        self.check("(let a (+ a 1) (+ a a))", told(12), [], 3, 0)
        self.check("(let c 1 (let c 2 c))", told(2), [], 2, 0)
        self.check("(+ (let a 1 a) a)", told(6), [], 2, 0)
        self.check("(let a (mark 1 7) (mark 2 b))", told((1, True)), [1, 2], 3, 0)

    def test_loop(self):
        self.check("(loop c 0 d 3 (+ c d))", told(3), [], 7, 0)
        self.check("(loop c 4 d 3 (* c 2))", told(32), [], 7, 0)
        self.check("(loop c 0 d 50 d)", told(49), [], 51, 0)
        self.check("(loop c (mark 1 7) d (mark 2 0) (mark 3 9))", told(7), [1, 2], 3, 0)
        self.check("(loop c (mark 1 7) d (mark 2 2) (mark 3 d))", told(1), [1, 2, 3, 3], 7, 0)
        self.check("(loop a (+ a 1) b a (parts a b))", told((((((6, 0), 1), 2), 3), 4)), [], 12, 0)
        self.check("(+ (loop a 1 b 2 (+ a b)) a)", told(7), [], 6, 0)
        self.check("(loop c 0 d 2 (loop e c f 2 (+ e 1)))", told(4), [], 13, 0)

    def test_raise_and_try(self):
        self.check("(raise q)", refused("q", 0), [], 1, 0)
        self.check("(try (raise q) q (mark 1 2))", told(2), [1], 3, 0)
        self.check("(try 4 q (mark 1 2))", told(4), [], 1, 0)
        self.check("(try (raise q) p 1)", refused("q", 1), [], 2, 0)
        self.check("(try (raise q) q (raise q))", refused("q", 2), [], 3, 0)
        self.check("(try (try (raise q) q (raise p)) p 3)", told(3), [], 4, 0)
        self.check("(try (try (raise q) p (mark 1 1)) q (mark 2 2))", told(2), [2], 4, 0)
        self.check("(try (+ yes 1) kind (mark 1 2))", told(2), [1], 3, 0)
        self.check("(try (/ 1 0) kind 2)", refused("nought", 1), [], 2, 0)
        self.check("(let a 1 (try (let a 2 (raise q)) q a))", told(1), [], 4, 0)

    def test_mark(self):
        self.check("(mark 0 a)", told(5), [0], 1, 0)
        self.check("(mark 1000000000 (mark 3 yes))", told(True), [3, 1000000000], 2, 0)
        self.check("(mark 1 (raise q))", refused("q", 1), [], 2, 0)

    def test_marks_stay(self):
        self.check("(try (+ (mark 1 1) (raise q)) q (mark 2 3))", told(3), [1, 2], 5, 0)
        self.check("(parts (mark 1 1) (mark 1 1) (raise q))", refused("q", 5), [1, 1], 4, 0)

    def test_call(self):
        self.check("(k)", told(9), [], 1, 2)
        self.check("(f 6 7)", told(42), [], 2, 4)
        self.check("(f (mark 1 6) (mark 2 7))", told(42), [1, 2], 4, 4)
        self.check("(f (f 2 3) (k))", told(54), [], 5, 10)
        self.check("(let b 2 (f b a))", told(10), [], 3, 4)
        self.check("(w 3)", refused("c", 1, "w"), [], 3, 3)

    def test_the_price_is_paid_between_the_args_and_the_body(self):
        self.check("(f 1 (raise q))", refused("q", 2), [], 2, 0)
        self.check("(f (k) (raise q))", refused("q", 2), [], 3, 2)
        self.check("(f 1 yes)", refused("kind", 0, "f"), [], 2, 4)
        self.check("(try (f 1 yes) kind (k))", told(9), [], 4, 6)

    def test_melt(self):
        self.check_body("(melt k () 9)", told(9), [], 1, 0)
        self.check_body("(melt f ((a 6) (b 7)) (* 6 7))", told(42), [], 2, 0)
        self.check_body("(melt f ((a (mark 1 6)) (b 7)) (* a 7))", told(42), [1], 3, 1)
        self.check_body("(melt f ((a (mark 1 6)) (b (mark 2 7))) (* a b))", told(42), [1, 2], 4, 2)
        self.check_body("(melt f ((a 6) (b (raise q))) (* 6 b))", refused("q", 2), [], 2, 0)
        self.check_body("(melt f ((a (k)) (b (raise q))) (* a b))", refused("q", 2), [], 3, 2)
        self.check_body("(melt f ((a 1) (b (many b))) (+ yes b))", refused("kind", 0, "f"), [], 3, 1)

    def test_what_a_melt_binds(self):
        self.check_body("(let a 1 (melt f ((a (+ a 10)) (b (+ a 100))) (parts a b)))", told((11, 101)), [], 5, 2)
        self.check_body("(let c 7 (melt f ((a (+ 1 1)) (b 5)) (+ a c)))", told(9), [], 4, 1)
        self.check_body("(let b 7 (melt f ((a (+ 1 1)) (b 5)) b))", told(7), [], 3, 1)
        self.check_body("(+ (melt f ((a (+ a 1)) (b 5)) a) a)", told(11), [], 3, 1)
        self.check_body("(melt f ((c (+ a 1)) (b a)) (melt f ((a (+ c a)) (b c)) (parts a c)))", told((11, 6)), [], 5, 2)

    def test_a_call_in_a_melt_has_its_params_alone(self):
        self.check_body("(melt w ((c (+ 1 1))) (f c 3))", told(6), [], 4, 5)


class TestPlaces(Runs):
    def test_each_deed_refuses_at_its_node(self):
        self.check("(+ 1 (+ yes 2))", refused("kind", 2), [], 2, 0)
        self.check("(+ 1 (/ a 0))", refused("nought", 2), [], 2, 0)
        self.check("(* (* 1000000000 1000000000) 2)", refused("far", 0), [], 2, 0)
        self.check("(mark 1 (pick 3 b))", refused("lack", 1), [], 2, 0)
        self.check("(mark 1 (pick 1 (many b)))", refused("kind", 1), [], 3, 0)
        self.check("(mark 1 (many (mark 2 a)))", refused("kind", 1), [2], 3, 0)
        self.check("(mark 1 (if (mark 2 a) 1 2))", refused("kind", 1), [2], 3, 0)
        self.check("(mark 1 (loop c (mark 2 0) d (mark 3 51) c))", refused("far", 1), [2, 3], 4, 0)
        self.check("(mark 1 (loop c 0 d (- 0 1) c))", refused("far", 1), [], 3, 0)
        self.check("(mark 1 (loop c 0 d no c))", refused("kind", 1), [], 2, 0)
        self.check("(loop c (parts) d 45 (parts c))", refused("far", 3), [], 82, 0)

    def test_numbers_of_nodes(self):
        text = "(let c (parts 1 (+ a 2) b) (if yes (loop d (many c) e 1 (f d (raise q))) 3))"
        self.assertEqual(nodes(read_tree(text)).index(("raise", "q")), 15)
        self.check(text, refused("q", 15), [], 9, 0)

    def test_places_in_other_defs(self):
        self.check("(+ 1 (s))", refused("q", 4, "s"), [], 6, 2)
        self.check("(f (s) 1)", refused("q", 4, "s"), [], 6, 2)
        self.check("(try (s) q (w 2))", refused("c", 1, "w"), [], 9, 5)

    def test_places_in_bodies_of_melts(self):
        self.check_body("(melt f ((a a) (b (+ 1 1))) (mark 3 (+ yes b)))", refused("kind", 1, "f"), [], 4, 1)
        self.check_body("(+ 1 (melt s () (+ 1 (many (parts (raise q))))))", refused("q", 4, "s"), [], 6, 0)
        self.check_body("(melt f ((a 1) (b (+ 1 1))) (+ 1 (melt k () (many 1))))", refused("kind", 0, "k"), [], 5, 1)
        self.check_body("(melt f ((a 1) (b 2)) (+ 1 (melt w ((c (many 1))) c)))", refused("kind", 3, "f"), [], 4, 0)
        self.check_body("(melt f ((a 1) (b 2)) (+ (melt f ((a 3) (b 4)) 5) (many 1)))", refused("kind", 4, "f"), [], 4, 0)

    def test_places_around_melts(self):
        # Here the melts count as the calls that they were, with their plain args.
        self.check_body("(+ (melt f ((a 1) (b 2)) (+ 1 (+ 2 3))) (many 1))", refused("kind", 4), [], 5, 0)
        self.check_body("(melt f ((a (melt w ((c 3)) (many 5))) (b 2)) a)", refused("kind", 0, "w"), [], 3, 0)
        self.check_body("(melt f ((a (melt w ((c (raise q))) c)) (b 2)) a)", refused("q", 2), [], 3, 0)
        self.check_body("(melt f ((a (melt w ((c 3)) 5)) (b (raise q))) a)", refused("q", 3), [], 3, 0)
        self.check_body("(parts (melt k () (many b)) (melt k () (raise q)))", refused("q", 0, "k"), [], 5, 0)

    def test_a_refusal_goes_out_of_melts_and_calls_up_to_a_try_of_its_word(self):
        self.check_body("(try (melt k () (mark 1 (raise q))) q 4)", told(4), [], 4, 0)
        self.check_body("(try (melt k () (try (s) p 3)) q 4)", told(4), [], 8, 2)
        self.check_body("(melt k () (try (raise q) p 3))", refused("q", 1, "k"), [], 3, 0)


class TestFuel(Runs):
    TEXTS = [
        "7", "(+ 1 2)", "(- (mark 1 a) (mark 2 3))", "(loop c 0 d 3 (mark 4 (+ c d)))", "(f (f 2 3) (mark 1 (k)))",
        "(try (+ (mark 1 1) (s)) q (mark 2 (k)))", "(let c (w 1) c)", "(loop c 0 d 3 5)", "(try (w (mark 9 1)) c (s))",
        "(loop c 1 d 4 (try (if (< c 3) (raise q) (f c d)) q (mark 3 (+ c 1))))",
    ]

    def test_the_fuel_is_60_where_none_is_told(self):
        self.assertEqual(FUEL, 60)
        program = with_main("(r 1)")
        self.assertEqual(run(program, "main", ARGS), (("dry",), [], 60, 60))
        self.assertEqual(run(program, "main", ARGS), run(program, "main", ARGS, fuel=60))

    def test_a_def_that_calls_itself_runs_dry(self):
        self.check("(r 1)", ("dry",), [], 100, 102)
        self.check("(r 1)", ("dry",), [], 0, 0, fuel=0)
        self.check("(r 1)", ("dry",), [], 1, 3, fuel=1)
        self.check("(r 1)", ("dry",), [], 3, 3, fuel=3)
        self.check("(r 1)", ("dry",), [], 4, 6, fuel=4)

    def test_no_fuel(self):
        self.check("7", told(7), [], 0, 0, fuel=0)
        self.check("(parts)", ("dry",), [], 0, 0, fuel=0)

    def test_no_try_takes_it(self):
        self.check("(try (r 1) dry 1)", ("dry",), [], 9, 9, fuel=9)
        self.check("(try (try (parts) fuel 1) dry 1)", ("dry",), [], 2, 0, fuel=2)

    def test_a_turn_of_a_loop_takes_a_tick(self):
        self.check("(loop c 0 d 3 5)", told(5), [], 4, 0, fuel=4)
        self.check("(loop c 0 d 3 5)", ("dry",), [], 3, 0, fuel=3)
        self.check("(loop c 0 d 3 (mark 1 d))", ("dry",), [1], 4, 0, fuel=4)

    def test_dry_at_each_fuel(self):
        for text in self.TEXTS:
            program = with_main(text)
            full = run(program, "main", ARGS, fuel=100)
            self.assertNotEqual(full[0], ("dry",))
            for fuel in range(101):
                found = run(program, "main", ARGS, fuel=fuel)
                if fuel >= full[2]:
                    self.assertEqual(found, full)
                else:
                    self.assertEqual((found[0], found[2]), (("dry",), fuel))
                    self.assertEqual(found[1], full[1][:len(found[1])])
                    self.assertLessEqual(found[3], full[3])

    def test_more_fuel_never_tells_less(self):
        for defs in grown_programs(60, 40):
            program = Program(defs)
            name, params, body = defs[0]
            before = None
            for fuel in range(0, 101, 4):
                found = run(program, name, [3] * len(params), fuel=fuel)
                self.assertLessEqual(found[2], fuel)
                if found[0] == ("dry",):
                    self.assertEqual(found[2], fuel)
                if before is not None:
                    self.assertEqual(before[1], found[1][:len(before[1])])
                    self.assertTrue(before[2] <= found[2] and before[3] <= found[3])
                    self.assertTrue(before[0] == ("dry",) or before == found)
                before = found


class TestLargeBodies(Runs):
    def test_bodies_of_2000_nodes_and_of_depth_64(self):
        program = with_main("0")
        body = ("if", ("truth", False), of_size(1997), ONE)
        self.assertTrue(is_tree(body))
        self.assertEqual(run(program, "main", ARGS, body=body), (told(1), [], 1, 0))
        last = ("do", "+", of_size(1997), ("raise", "q"))
        self.assertEqual(run(program, "main", ARGS, body=("try", ("raise", "p"), "p", last), fuel=2)[0], ("dry",))
        self.assertEqual(run(program, "main", ARGS, body=of_depth(64), fuel=100), (refused("kind", 62), [], 63, 0))
        deep = read_tree("(mark 1 " * 63 + "a" + ")" * 63)
        self.assertEqual(run(program, "main", ARGS, body=deep, fuel=100), (told(5), [1] * 63, 63, 0))

    def test_numbers_behind_a_large_part(self):
        body = ("if", ("truth", False), of_size(1990), ("raise", "q"))
        self.assertEqual(run(with_main("0"), "main", ARGS, body=body)[0], refused("q", 1992))

    def test_melts_within_melts(self):
        text = "(melt k () " * 63 + "(raise q)" + ")" * 63
        self.check_body(text, refused("q", 0, "k"), [], 64, 0)

    def test_calls_within_calls_in_args_and_parts(self):
        program = read_program("(def f (a) (parts 1 (f (parts 2 (f a)))))")
        self.assertEqual(run(program, "f", [1], fuel=100)[0], ("dry",))


class TestRefused(unittest.TestCase):
    def test_no_def(self):
        program = with_main("0")
        for name in OTHER_THINGS + ["z", "MAIN", "def", ["main"], ("main",), b"main", 0, nested_lists(200), 10 ** 5000]:
            for args in [ARGS, [], None, [None]]:
                with self.assertRaises(NoDef) as caught:
                    run(program, name, args)
                self.assertIs(caught.exception.name, name)

    def refuse(self, name, args):
        with self.subTest(shown(args)):
            for keywords in [{}, {"fuel": 0}, {"body": ONE}]:
                with self.assertRaises(BadRun) as caught:
                    run(with_main("0"), name, args, **keywords)
                self.assertEqual(caught.exception.at, 0)

    def test_what_is_no_list(self):
        for thing in OTHER_THINGS + [tuple(ARGS), {1: 1, 2: 2}, "ab", nested_tuples(200), 2, range(2), iter(ARGS)]:
            if thing != []:
                self.refuse("main", thing)
            if not isinstance(thing, list):
                self.refuse("k", thing)

    def test_too_few_and_too_many(self):
        for many in [0, 1, 3, 4, 8000]:
            self.refuse("main", [1] * many)
        for many in [1, 2, 8000]:
            self.refuse("k", [1] * many)

    def test_things_that_are_no_values(self):
        wrong = [None, "1", b"", [], [1], {}, 10 ** 18 + 1, -10 ** 18 - 1, 10 ** 5000, (1,) * 5, nested_tuples(41),
                 (1, [2]), ("a",), nested_lists(190), nested_tuples(199), object(), 1j]
        for thing in wrong:
            self.refuse("main", [thing, 1])
            self.refuse("main", [1, thing])
            self.refuse("r", [thing])

    def test_values_at_the_bounds(self):
        for value in [10 ** 18, -10 ** 18, True, (), nested_tuples(40), (1, 2, 3, 4)]:
            found = run(with_main("(let c a b)"), "main", [1, value])
            self.assertEqual(repr(found), repr((told(value), [], 1, 0)))


class TestKept(unittest.TestCase):
    def test_nothing_handed_in_is_changed(self):
        program, args = with_main("(loop a 1 b 3 (mark 2 (f a b)))"), [5, ((1,), 2)]
        body = read_tree("(melt f ((a 1) (b (+ a 1))) (mark 1 (* 1 b)))")
        run(program, "main", args)
        run(program, "main", args, body=body)
        self.assertEqual(args, [5, ((1,), 2)])
        self.assertEqual(program, with_main("(loop a 1 b 3 (mark 2 (f a b)))"))
        self.assertEqual(body, read_tree("(melt f ((a 1) (b (+ a 1))) (mark 1 (* 1 b)))"))

    def test_the_marks_are_the_askers_own(self):
        program = with_main("(mark 1 (mark 2 a))")
        one = run(program, "main", ARGS)
        other = run(program, "main", ARGS)
        one[1].append(3)
        self.assertEqual(other, (told(5), [2, 1], 2, 0))
        self.assertEqual(run(program, "main", ARGS), other)

    def test_a_body_handed_in_changes_nothing_else(self):
        program = with_main("(mark 1 a)")
        self.assertEqual(run(program, "main", ARGS, body=read_tree("(mark 2 (f a 2))")), (told(10), [2], 3, 4))
        self.assertEqual(run(program, "main", ARGS, body=None), (told(5), [1], 1, 0))
        # A call of the def itself still begins its own body.
        again = read_tree("(mark 2 (main a b))")
        self.assertEqual(run(program, "main", ARGS, body=again), (told(5), [1, 2], 3, 4))


if __name__ == "__main__":
    unittest.main()
