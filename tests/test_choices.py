"""Points 7, 60, 61, 62, 63 and 65: choices of a root, and its body melted by them."""

import random
import unittest

from callmelt.choices import choice_of, is_choice, is_melted, melted
from callmelt.errors import NoChoice, NoDef
from callmelt.melts import melted_call
from callmelt.names import free_words
from callmelt.paths import growth_of
from callmelt.programs import Program, read_program
from callmelt.reader import read_tree
from callmelt.texts import show_tree
from callmelt.trees import depth_of, is_tree, size_of, thawed
from tests.helper import (
    OTHER_THINGS, TANGLED, TREES, grown_choices, grown_programs, grown_trees, nested_lists, nested_tuples, of_size,
    remade, shown,
)

PROGRAM = read_program("""(def f (a b) (+ (g a) (f (h) (g (h)))))
(def g (a) (mark 1 (k a 2 (+ a 1) (h))))
(def h () 5)
(def k (a b c d) (parts a b c (g d)))""")
# f: 1 (g a), 3 (f ..), 4 (h), 5 (g (h)), 6 (h). g: 1 (k ..), 7 (h). k: 4 (g d).
ROOTS = OTHER_THINGS + ["z", "F", "def", ("f",), ["f"], ("f", 1), b"f", nested_lists(200), 10 ** 5000]


def wide():
    """A program whose def f has forty paths of one or two numbers, and one that is longer."""
    nine = "(parts (parts (k) (k) (k) (k)) (parts (k) (k) (k) (k)) (k))"
    return read_program(f"(def f () (parts (g) (g) (g) (g)))\n(def g () {nine})\n(def k () (h))\n(def h () 1)")


def forty_paths():
    numbers = [2, 3, 4, 5, 7, 8, 9, 10, 11]
    return sorted([("f", n) for n in range(1, 5)] + [("f", n, m) for n in range(1, 5) for m in numbers])


def with_paths(*rows):
    """A list of paths of f."""
    return [("f", *row) for row in rows]


CHOICES = [
    with_paths(),
    with_paths([1]),
    with_paths([6]),
    with_paths([1], [3], [4], [5], [6]),
    with_paths([1], [1, 1], [1, 1, 4], [1, 1, 4, 1], [1, 1, 4, 1, 4]),
    with_paths([1], [1, 1], [1, 7], [3], [3, 3], [3, 3, 3], [3, 3, 3, 3], [3, 3, 3, 3, 3], [3, 5], [5], [5, 7]),
]
# Lists that are no choices of f, and the place at which they are none.
NO_CHOICES = [
    # No path of the root.
    (with_paths([0]), 0),
    (with_paths([]), 0),
    (with_paths([1], [2]), 1),
    (with_paths([1], [1, 0]), 1),
    (with_paths([1], [1, 1], [1, 1, 4], [1, 1, 4, 1], [1, 1, 4, 1, 4], [1, 1, 4, 1, 4, 1]), 5),
    (with_paths([1], [99]), 1),
    (with_paths([1], [True]), 1),
    (with_paths([True]), 0),
    (with_paths([1], [1, True]), 1),
    (with_paths([10 ** 5000]), 0),
    # Of another root, of none.
    ([("g", 1)], 0),
    ([("f", 1), ("g", 1)], 1),
    ([("z", 1)], 0),
    # Not greater than the one ahead.
    (with_paths([1], [1]), 1),
    (with_paths([3], [1]), 1),
    (with_paths([1], [3], [1, 1]), 2),
    (with_paths([1], [1, 1], [1, 1]), 2),
    (with_paths([1], [3], [3], [1], [99]), 2),
    # The path without the last number is not among those ahead.
    (with_paths([1, 1]), 0),
    (with_paths([1], [3, 3]), 1),
    (with_paths([1], [1, 1, 4]), 1),
    (with_paths([1], [1, 1], [1, 1, 4], [1, 1, 4, 1, 4]), 3),
    (with_paths([1, 1], [1]), 0),
    # Things of other kinds.
    ([["f", 1]], 0),
    ([("f", 1), ["f", 3]], 1),
    ([("f", 1), None, ("f", 0)], 1),
    ([[("f", 1)]], 0),
    (["f"], 0),
    ([("f", "1")], 0),
    ([("f", [1])], 0),
    ([nested_lists(198)], 0),
    ([("f", 1), nested_tuples(198)], 1),
    ([("f", 1)] * 2000, 1),
    (with_paths([1]) + [("f", 1, 1)] * 3 + [[]] * 2000, 2),
]
NO_LISTS = [
    (), (("f", 1),), ("f", 1), {("f", 1): True}, {("f", 1)}, "f", "[]", None, 0, True, b"", nested_tuples(200),
    10 ** 5000,
]


class TestIsChoice(unittest.TestCase):
    def test_choices(self):
        for choice in CHOICES:
            self.assertIs(is_choice(PROGRAM, "f", choice), True, choice)
        self.assertIs(is_choice(PROGRAM, "h", []), True)

    def test_no_choices(self):
        for thing, at in NO_CHOICES:
            self.assertIs(is_choice(PROGRAM, "f", thing), False, shown(thing))

    def test_of_whatever_is_handed_in(self):
        for thing in OTHER_THINGS + NO_LISTS + [[thing] for thing in OTHER_THINGS]:
            wanted = isinstance(thing, list) and thing == []
            self.assertIs(is_choice(PROGRAM, "f", thing), wanted, shown(thing))

    def test_a_choice_of_another_root_is_none(self):
        for choice in CHOICES[1:]:
            for root in "ghk":
                self.assertIs(is_choice(PROGRAM, root, choice), False)

    def test_a_root_that_is_no_defs_name(self):
        for root in ROOTS:
            for thing in CHOICES + [None, [("z", 1)]]:
                self.assertIs(is_choice(PROGRAM, root, thing), False, shown(root))

    def test_forty_and_forty_one(self):
        paths = forty_paths()
        self.assertEqual(len(paths), 40)
        self.assertIs(is_choice(wide(), "f", paths), True)
        more = sorted(paths + [("f", 1, 2, 0)])
        self.assertIs(is_choice(wide(), "f", more), False)
        self.assertIs(is_choice(wide(), "f", more[:-1]), True)

    def test_grown_choices(self):
        for program, root, choice in grown(60):
            self.assertIs(is_choice(program, root, choice), True)
            self.assertIs(is_choice(program, root, tuple(choice)), False)
            self.assertIs(is_choice(program, root, choice + choice[-1:]), False)
            if len(choice) > 1:
                self.assertIs(is_choice(program, root, choice[::-1]), False)
            if len(choice[-1]) > 2:
                self.assertIs(is_choice(program, root, [path for path in choice if path != choice[-1][:2]]), False)


def grown(seed, many=60):
    """Programs, each with roots and choices."""
    programs = [Program(defs) for defs in grown_programs(many, seed)] + [read_program(text) for text in TANGLED]
    for program in programs:
        for root in program.names():
            for choice in grown_choices(program, root, 4, seed):
                yield program, root, choice


class TestMelted(unittest.TestCase):
    def check(self, text, choice, wanted):
        """The first def's body melted."""
        program = read_program(text)
        root = program.names()[0]
        found = melted(program, root, [(root, *row) for row in choice])
        self.assertEqual(show_tree(found), wanted)

    def test_the_empty_choice(self):
        for root in PROGRAM.names():
            self.assertEqual(melted(PROGRAM, root, []), PROGRAM.body(root))

    def test_one_call(self):
        self.check("(def f () (+ 1 (g 2)))\n(def g (a) (* a a))", [[2]], "(+ 1 (melt g ((a 2)) (* 2 2)))")
        self.check("(def f () (g))\n(def g () 1)", [[0]], "(melt g () 1)")

    def test_a_call_that_stands_twice(self):
        text = "(def f (b) (+ (g b) (g b)))\n(def g (a) (* a a))"
        self.check(text, [[1]], "(+ (melt g ((a b)) (* b b)) (g b))")
        self.check(text, [[3]], "(+ (g b) (melt g ((a b)) (* b b)))")
        self.check(text, [[1], [3]], "(+ (melt g ((a b)) (* b b)) (melt g ((a b)) (* b b)))")
        # Where both stand in one body, and are the very same tuple.
        call = ("call", "g", (("name", "b"),))
        program = Program([("f", ("b",), ("do", "+", call, call)), ("g", ("a",), ("name", "a"))])
        self.assertEqual(show_tree(melted(program, "f", [("f", 3)])), "(+ (g b) (melt g ((a b)) b))")

    def test_calls_within_args(self):
        text = "(def f (b) (g (g (+ b 1))))\n(def g (a) (* a 3))"
        self.check(text, [[0]], "(melt g ((a (g (+ b 1)))) (* a 3))")
        self.check(text, [[1]], "(g (melt g ((a (+ b 1))) (* a 3)))")
        self.check(text, [[0], [1]], "(melt g ((a (melt g ((a (+ b 1))) (* a 3)))) (* a 3))")

    def test_paths_within_melted_bodies(self):
        text = "(def f (b) (+ b (g b)))\n(def g (a) (* (h a) (h 1)))\n(def h (c) (- c 2))"
        self.check(text, [[2]], "(+ b (melt g ((a b)) (* (h b) (h 1))))")
        self.check(text, [[2], [2, 1]], "(+ b (melt g ((a b)) (* (melt h ((c b)) (- b 2)) (h 1))))")
        self.check(text, [[2], [2, 3]], "(+ b (melt g ((a b)) (* (h b) (melt h ((c 1)) (- 1 2)))))")
        self.check(text, [[2], [2, 1], [2, 3]],
                   "(+ b (melt g ((a b)) (* (melt h ((c b)) (- b 2)) (melt h ((c 1)) (- 1 2)))))")

    def test_numbers_in_a_melted_body_are_those_of_the_defs_own(self):
        # g's arg is a tree of three nodes, of which its body has none.
        text = "(def f (b) (g (+ b 1)))\n(def g (a) (* a (h a)))\n(def h (c) (- c 2))"
        self.check(text, [[0], [0, 2]], "(melt g ((a (+ b 1))) (* a (melt h ((c a)) (- a 2))))")
        # Behind a call whose body was put in, the numbers go on as if it were not.
        text = "(def f (b) (+ (g (h b)) (h 3)))\n(def g (a) (+ 1 (* a (h a))))\n(def h (c) (- c 2))"
        self.check(text, [[1], [2], [4]],
                   "(+ (melt g ((a (melt h ((c b)) (- b 2)))) (+ 1 (* a (h a)))) (melt h ((c 3)) (- 3 2)))")

    def test_calls_in_args_within_a_melted_body(self):
        text = "(def f (b) (g b))\n(def g (a) (h (h a)))\n(def h (c) (- c 2))"
        self.check(text, [[0], [0, 0], [0, 1]],
                   "(melt g ((a b)) (melt h ((c (melt h ((c b)) (- b 2)))) (- c 2)))")

    def test_a_def_within_itself(self):
        text = "(def f (a) (if (< a 1) 0 (f (- a 1))))"
        self.check(text, [[5]], "(if (< a 1) 0 (melt f ((a (- a 1))) (if (< a 1) 0 (f (- a 1)))))")
        inmost = "(if (< a 1) 0 (f (- a 1)))"
        for many in range(1, 6):
            inmost = inmost.replace("(f (- a 1))", "(melt f ((a (- a 1))) (if (< a 1) 0 (f (- a 1))))")
            self.check(text, [[5] * count for count in range(1, many + 1)], inmost)

    def test_new_words_of_each_body(self):
        text = "(def f (b) (let c b (g c b)))\n(def g (a b) (let c (+ a b) (h c b)))\n(def h (b c) (let c1 b (+ c1 c)))"
        self.check(text, [[2]], "(let c b (melt g ((a c) (b b)) (let c1 (+ c b) (h c1 b))))")
        # The word c1 was written for c in g's body, and is bound in h's.
        self.check(text, [[2], [2, 4]],
                   "(let c b (melt g ((a c) (b b)) (let c1 (+ c b) (melt h ((b c1) (c b)) (let c2 c1 (+ c2 b))))))")

    def test_as_melted_one_by_one(self):
        for program, root, choice in grown(61):
            # In any order in which each path stands behind its beginnings.
            order = sorted(choice, key=lambda path: (len(path), [-number for number in path[1:]]))
            for paths in [choice, order]:
                tree = program.body(root)
                for path in paths:
                    tree = remade(tree, path[1:], lambda call: melted_call(program, call))
                self.assertEqual(melted(program, root, choice), tree)

    def test_no_def_ahead_of_no_choice(self):
        for root in ROOTS:
            for choice in [[], None, [("f", 1)], [("z", 1)]]:
                with self.assertRaises(NoDef) as caught:
                    melted(PROGRAM, root, choice)
                self.assertIs(caught.exception.name, root)

    def refuse(self, program, thing, at):
        with self.assertRaises(NoChoice) as caught:
            melted(program, "f", thing)
        self.assertEqual(caught.exception.at, at, shown(thing))

    def test_no_choice(self):
        for thing, at in NO_CHOICES:
            self.refuse(PROGRAM, thing, at)
        for thing in NO_LISTS + [thing for thing in OTHER_THINGS if not isinstance(thing, list)]:
            self.refuse(PROGRAM, thing, 0)
        for thing in OTHER_THINGS:
            self.refuse(PROGRAM, [thing], 0)
            self.refuse(PROGRAM, [("f", 1), ("f", 3), thing, ("f", 0)], 2)

    def test_the_forty_first(self):
        paths = forty_paths()
        self.assertEqual(choice_of("f", melted(wide(), "f", paths)), paths)
        self.refuse(wide(), sorted(paths + [("f", 1, 2, 0)]), 40)
        self.refuse(wide(), paths + [("f", 4, 11)], 40)
        self.refuse(wide(), paths + [None], 40)
        self.refuse(wide(), paths[:39] + [None] + paths[39:], 39)

    def test_nothing_handed_in_is_changed(self):
        choice = [("f", 1), ("f", 1, 1)]
        tree = melted(PROGRAM, "f", choice)
        self.assertEqual(choice, [("f", 1), ("f", 1, 1)])
        choice.clear()
        self.assertEqual(melted(PROGRAM, "f", [("f", 1), ("f", 1, 1)]), tree)


class TestNothingIsLost(unittest.TestCase):
    def test_a_melted_body_is_a_tree_that_tells_all(self):
        for program, root, choice in grown(7):
            tree = melted(program, root, choice)
            self.assertTrue(is_tree(tree))
            self.assertEqual(thawed(tree), program.body(root))
            self.assertEqual(choice_of(root, tree), choice)
            self.assertEqual(read_tree(show_tree(tree)), tree)
            self.assertIs(is_melted(program, root, tree), True)
            self.assertLessEqual(set(free_words(tree)), set(program.params(root)))

    def test_the_size_is_that_of_the_body_and_the_growth_of_each_path(self):
        for program, root, choice in grown(63):
            tree = melted(program, root, choice)
            growth = sum(growth_of(program, path) for path in choice)
            self.assertEqual(size_of(tree), size_of(program.body(root)) + growth)

    def test_as_large_and_as_deep_as_can_be(self):
        # Forty nodes in each body, and at depth eight calls, so that forty bodies are put in, six within one another.
        calls = "(many (many (many (many (many (parts (f) (f) (f) (f)))))))"
        rest = show_tree(of_size(40 - 10 - 1))
        program = read_program(f"(def f () (+ {calls} {rest}))")
        self.assertEqual((size_of(program.body("f")), depth_of(program.body("f"))), (40, 8))
        numbers = [number for number, called, plain in program.sites("f")]
        self.assertEqual(len(numbers), 4)
        choice = []
        for first in numbers:
            for many in range(1, 6):
                choice.append(("f", first) + (numbers[0],) * (many - 1))
            for other in numbers[1:]:
                choice.append(("f", first, other))
            choice.append(("f", first, numbers[1], numbers[0]))
            choice.append(("f", first, numbers[1], numbers[1]))
        choice = sorted(choice)
        self.assertEqual(len(choice), 40)
        tree = melted(program, "f", choice)
        self.assertEqual((size_of(tree), depth_of(tree)), (1640, 48))
        self.assertTrue(is_tree(tree))
        self.assertEqual(choice_of("f", tree), choice)
        self.assertEqual(read_tree(show_tree(tree)), tree)
        self.assertIs(is_melted(program, "f", tree), True)


class TestChoiceOf(unittest.TestCase):
    def test_no_melts(self):
        for root in PROGRAM.names():
            self.assertEqual(choice_of(root, PROGRAM.body(root)), [])

    def test_melts_in_args_and_bodies(self):
        for choice in CHOICES:
            self.assertEqual(choice_of("f", melted(PROGRAM, "f", choice)), choice)

    def test_numbers_count_what_stands_in_the_tree_thawed(self):
        tree = read_tree("(+ (melt f ((a 1) (b (melt g () (melt h () 2)))) (+ 1 (many (melt k () 5)))) (melt k () 5))")
        self.assertEqual(choice_of("m", tree), [("m", 1), ("m", 1, 3), ("m", 3), ("m", 3, 0), ("m", 4)])

    def test_the_list_is_the_askers_own(self):
        tree = melted(PROGRAM, "f", [("f", 1)])
        choice_of("f", tree).clear()
        self.assertEqual(choice_of("f", tree), [("f", 1)])


class TestIsMelted(unittest.TestCase):
    def test_melted_bodies(self):
        for choice in CHOICES:
            self.assertIs(is_melted(PROGRAM, "f", melted(PROGRAM, "f", choice)), True)
        for root in PROGRAM.names():
            self.assertIs(is_melted(PROGRAM, root, PROGRAM.body(root)), True)

    def test_bodies_of_other_roots(self):
        for root in "ghk":
            for choice in CHOICES:
                self.assertIs(is_melted(PROGRAM, root, melted(PROGRAM, "f", choice)), False)

    def test_a_root_that_is_no_defs_name(self):
        for root in ROOTS:
            for thing in [PROGRAM.body("f"), None, root]:
                self.assertIs(is_melted(PROGRAM, root, thing), False)

    def test_of_whatever_is_handed_in(self):
        for thing in OTHER_THINGS + NO_LISTS + TREES + grown_trees(300, 65) + [nested_lists(200), ("melt", "f", (), 1)]:
            self.assertIs(is_melted(PROGRAM, "f", thing), False, shown(thing))

    def test_bodies_melted_otherwise(self):
        program = read_program("(def f (b) (+ (g b) (g (g 1))))\n(def g (a) (let b a (* b a)))")
        self.assertEqual(show_tree(melted(program, "f", [("f", 1)])),
                         "(+ (melt g ((a b)) (let b1 b (* b1 b))) (g (g 1)))")
        for text in [
            # Another new word, a word caught, another row, another def, another body, a body that is not put in.
            "(+ (melt g ((a b)) (let b2 b (* b2 b))) (g (g 1)))",
            "(+ (melt g ((a b)) (let b b (* b b))) (g (g 1)))",
            "(+ (melt g ((c b)) (let b1 b (* b1 b))) (g (g 1)))",
            "(+ (melt g ((a c)) (let b1 b (* b1 b))) (g (g 1)))",
            "(+ (melt g () (let b1 b (* b1 b))) (g (g 1)))",
            "(+ (melt f ((a b)) (let b1 b (* b1 b))) (g (g 1)))",
            "(+ (melt z ((a b)) (let b1 b (* b1 b))) (g (g 1)))",
            "(+ (melt g ((a b)) (let b1 b (* b b1))) (g (g 1)))",
            "(+ (melt g ((a b)) (let b1 a (* b1 a))) (g (g 1)))",
            # A root's body that is another one.
            "(+ (melt g ((a b)) (let b1 b (* b1 b))) (g (g 2)))",
            "(- (melt g ((a b)) (let b1 b (* b1 b))) (g (g 1)))",
            "(melt g ((a b)) (let b1 b (* b1 b)))",
            # A melt in the place of what is no call.
            "(melt g ((a b)) (let b1 b (+ b1 b)))",
            "(+ (g b) (g (melt g ((a (melt g () 1))) (let b a (* b a)))))",
        ]:
            self.assertIs(is_melted(program, "f", read_tree(text)), False, text)

    def test_more_than_a_choice_may_have(self):
        program = wide()
        choice = sorted(forty_paths() + [("f", 1, 2, 0)])
        tree = program.body("f")
        for path in choice:
            tree = remade(tree, path[1:], lambda call: melted_call(program, call))
        self.assertTrue(is_tree(tree))
        self.assertEqual(choice_of("f", tree), choice)
        self.assertIs(is_melted(program, "f", tree), False)
        # A path of six numbers.
        program = read_program("(def f () (f))")
        self.assertIs(is_melted(program, "f", read_tree("(melt f () " * 5 + "(f)" + ")" * 5)), True)
        self.assertIs(is_melted(program, "f", read_tree("(melt f () " * 6 + "(f)" + ")" * 6)), False)
        self.assertIs(is_melted(program, "f", read_tree("(melt f () " * 60 + "(f)" + ")" * 60)), False)

    def test_melted_bodies_with_one_thing_changed(self):
        source = random.Random(65)
        changed = 0
        for program, root, choice in grown(65, 30):
            tree = melted(program, root, choice)
            number = source.randrange(len(choice))
            # A body put in that is another one, then a melt that bears another def.
            other = remade(tree, choice[number][1:], lambda melt: melt[:3] + (("many", melt[3]),))
            self.assertIs(is_melted(program, root, other), False)
            other = remade(tree, choice[number][1:], lambda melt: ("melt", "zz") + melt[2:])
            self.assertIs(is_melted(program, root, other), False)
            # One melt made a call again, with all in its body: that is another choice's.
            other = remade(tree, choice[number][1:], lambda melt: ("call", melt[1], tuple(one[1] for one in melt[2])))
            self.assertIs(is_melted(program, root, other), True)
            changed += 1
        self.assertGreater(changed, 50)


if __name__ == "__main__":
    unittest.main()
