"""Points 45, 63 and 64: paths, their defs, growth and gain, and all paths of a root."""

import itertools
import unittest

from callmelt.errors import NoDef, NoPath, TooMany
from callmelt.melts import melted_call
from callmelt.paths import DEEP, RINGS, defs_of, gain_of, growth_of, paths_of
from callmelt.programs import Program, read_program
from callmelt.trees import size_of
from tests.helper import OTHER_THINGS, grown_programs, nested_lists, nested_tuples, replaced, shown

PROGRAM = read_program("""(def f (a b) (+ (g a) (h)))
(def g (a) (mark 1 (k a 2 (+ a 1) (h))))
(def h () 5)
(def k (a b c d) (parts a b c (g d)))""")
PATHS = [
    # The path, its defs, its growth and its gain.
    (("f", 1), "f g", 7, 3),
    (("f", 3), "f h", 1, 2),
    (("f", 1, 1), "f g k", 4, 4),
    (("f", 1, 7), "f g h", 1, 2),
    (("f", 1, 1, 4), "f g k g", 7, 3),
    (("g", 1), "g k", 4, 4),
    (("g", 7), "g h", 1, 2),
    (("k", 4), "k g", 7, 3),
    (("k", 4, 1, 4, 1, 4), "k g k g k g", 7, 3),
    (("g", 1, 4, 1, 4, 7), "g k g k g h", 1, 2),
]
# Things that have the form of paths of this program, or nearly so.
NO_PATHS = [
    (), ("f",), ("f", 0), ("f", 2), ("f", 4), ("f", 99), ("f", -1), ("f", -2), ("f", 1, 0), ("f", 3, 0), ("f", 1, 1, 1),
    ("h", 0), ("h",), ("z", 1), ("F", 1), ("def", 1), ("", 1), (1, 1), (None, 1), (["f"], 1), (("f",), 1), (b"f", 1),
    ("f", True), ("f", False), ("f", 1, True), ("f", "1"), ("f", (1,)), ("f", [1]), ("f", None), ("f", 1j), ("f", b"1"),
    ("g", True), ["f", 1], "f", "f1", "f 1", {"f": 1}, {"f"}, 1, True, None, ("f", 10 ** 5000), ("f", -10 ** 5000),
    ("k", 4, 1, 4, 1, 4, 1), ("k", 4, 1, 4, 1, 4, 1, 4), ("k",) + (4, 1) * 100, ("k",) + (4,) * 7000,
    (1, "f"), ("f", "f", 1), ("f", 1, None), ("f", [], 1), nested_tuples(200), nested_lists(200), ("f", nested_lists(190)),
]


class TestOfAPath(unittest.TestCase):
    def test_defs_growth_and_gain(self):
        for path, defs, growth, gain in PATHS:
            with self.subTest(path):
                self.assertEqual(defs_of(PROGRAM, path), defs.split())
                self.assertEqual(growth_of(PROGRAM, path), growth)
                self.assertEqual(gain_of(PROGRAM, path), gain)

    def test_growth_below_nought(self):
        program = read_program("(def f () (g 1 2 3 4))\n(def g (a b c d) 7)")
        self.assertEqual(growth_of(program, ("f", 0)), -3)
        self.assertEqual(gain_of(program, ("f", 0)), 6)

    def test_no_path(self):
        for ask in [defs_of, growth_of, gain_of]:
            for path in OTHER_THINGS + NO_PATHS:
                with self.subTest(shown(path)):
                    with self.assertRaises(NoPath) as caught:
                        ask(PROGRAM, path)
                    self.assertIs(caught.exception.path, path)

    def test_growth_is_what_a_body_grows_by(self):
        for defs in grown_programs(60, 63):
            program = Program(defs)
            for name, params, body in defs:
                for number, called, plain in program.sites(name):
                    melted = replaced(body, number, lambda call: melted_call(program, call))
                    self.assertEqual(size_of(melted), size_of(body) + growth_of(program, (name, number)))
                    self.assertEqual(gain_of(program, (name, number)), 2 + plain)

    def test_the_list_is_the_askers_own(self):
        found = defs_of(PROGRAM, ("f", 1))
        found.append("h")
        self.assertEqual(defs_of(PROGRAM, ("f", 1)), ["f", "g"])


def all_paths(program, root, rings, deep):
    """All paths of a root, sought by trying each number on each path, until there are far too many."""
    ahead, found = [(root,)], []
    for many in range(deep):
        tried = [path + (number,) for path in ahead for number in range(40)]
        ahead = [path for path in tried if stands(program, path, rings)]
        found.extend(ahead)
        if len(found) > 200:
            break
    return sorted(found)


def stands(program, path, rings):
    """Whether a thing is a path in whose defs none stands too often."""
    try:
        defs = defs_of(program, path)
    except NoPath:
        return False
    return max(defs.count(name) for name in defs) <= rings + 1


def wide(calls):
    """A program whose root f has these calls, of g, which has nine calls, or of k, which has none."""
    four = ["(parts " + " ".join(calls[at:at + 4]) + ")" for at in range(0, len(calls), 4)]
    nine = "(parts (parts (k) (k) (k) (k)) (parts (k) (k) (k) (k)) (k))"
    return read_program(f"(def f () (parts {' '.join(four)}))\n(def g () {nine})\n(def k () 1)")


class TestPathsOf(unittest.TestCase):
    def test_the_numbers_told(self):
        self.assertEqual((RINGS, DEEP), (0, 3))

    def test_no_calls(self):
        for rings, deep in itertools.product(range(4), range(1, 6)):
            self.assertEqual(paths_of(PROGRAM, "h", rings=rings, deep=deep), [])

    def test_each_deep(self):
        program = read_program("(def a () (b))\n(def b () (+ 1 (c)))\n(def c () (d))\n(def d () (e))\n(def e () (f))\n"
                               "(def f () (g))\n(def g () 1)")
        path = ("a", 0, 2, 0, 0, 0)
        for deep in range(1, 6):
            self.assertEqual(paths_of(program, "a", deep=deep), [path[:many] for many in range(2, deep + 2)])
        self.assertEqual(paths_of(program, "a"), [path[:2], path[:3], path[:4]])
        self.assertEqual(paths_of(program, "f"), [("f", 0)])
        # No path has six numbers.
        self.assertEqual(paths_of(program, "a", deep=6), paths_of(program, "a", deep=5))

    def test_each_rings(self):
        program = read_program("(def f () (f))")
        for rings, deep in itertools.product(range(4), range(1, 6)):
            wanted = [("f",) + (0,) * many for many in range(1, min(rings, deep) + 1)]
            self.assertEqual(paths_of(program, "f", rings=rings, deep=deep), wanted)
        self.assertEqual(paths_of(program, "f"), [])

    def test_defs_that_call_each_other(self):
        program = read_program("(def f () (g))\n(def g () (+ 1 (f)))")
        path = ("f", 0, 2, 0, 2, 0)
        for rings, deep in itertools.product(range(4), range(1, 6)):
            most = min(deep, 2 * rings + 1)
            self.assertEqual(paths_of(program, "f", rings=rings, deep=deep), [path[:many + 1] for many in range(1, most + 1)])

    def test_sorted(self):
        self.assertEqual(paths_of(PROGRAM, "f"), [("f", 1), ("f", 1, 1), ("f", 1, 7), ("f", 3)])
        program = read_program("(def f () (parts (g) (k) (parts (k) (parts 1 2 3 (k))) (parts (k) (g))))\n"
                               "(def g () (+ (k) (k)))\n(def k () 1)")
        self.assertEqual(paths_of(program, "f"), [
            ("f", 1), ("f", 1, 1), ("f", 1, 2), ("f", 2), ("f", 4), ("f", 9), ("f", 11), ("f", 12), ("f", 12, 1),
            ("f", 12, 2),
        ])

    def test_calls_in_args_are_calls_of_the_body(self):
        program = read_program("(def f (a) (g (g (f 1))))\n(def g (a) 1)")
        self.assertEqual(paths_of(program, "f"), [("f", 0), ("f", 1)])
        self.assertEqual(paths_of(program, "f", rings=1, deep=2), [
            ("f", 0), ("f", 1), ("f", 2), ("f", 2, 0), ("f", 2, 1),
        ])

    def test_as_sought_by_trying_each_number(self):
        round_and_round = [
            "(def f () (+ (f) (g)))\n(def g () (+ (f) (g)))", "(def f () (+ 1 (g)))\n(def g () (+ (h) (f)))\n(def h () (f))",
            "(def f () (+ (g) (h)))\n(def g () (h))\n(def h () (k))\n(def k () (+ (g) (f)))",
        ]
        programs = [read_program(text) for text in round_and_round] + [Program(defs) for defs in grown_programs(12, 64)]
        asked, refused = 0, 0
        for program in programs:
            for root, rings, deep in itertools.product(program.names(), range(4), range(1, 6)):
                wanted = all_paths(program, root, rings, deep)
                asked += 1
                if len(wanted) > 40:
                    refused += 1
                    self.assertRaises(TooMany, paths_of, program, root, rings=rings, deep=deep)
                else:
                    self.assertEqual(paths_of(program, root, rings=rings, deep=deep), wanted)
        self.assertGreater(asked - refused, 200)
        self.assertGreater(refused, 5)

    def test_no_def(self):
        for root in OTHER_THINGS + ["z", "F", "def", ("f",), ["f"], ("f", 1), b"f", nested_lists(200), 10 ** 5000]:
            for rings, deep in [(0, 1), (3, 5)]:
                with self.assertRaises(NoDef) as caught:
                    paths_of(PROGRAM, root, rings=rings, deep=deep)
                self.assertIs(caught.exception.name, root)

    def refuse(self, program, **keywords):
        with self.assertRaises(TooMany) as caught:
            paths_of(program, "f", **keywords)
        self.assertEqual(caught.exception.number, 40)

    def test_just_forty_and_more(self):
        self.assertEqual(len(paths_of(wide(["(g)"] * 4), "f")), 40)
        self.assertEqual(len(paths_of(wide(["(g)"] * 3 + ["(k)"] * 10), "f")), 40)
        self.refuse(wide(["(g)"] * 4 + ["(k)"]))
        self.refuse(wide(["(k)"] + ["(g)"] * 4))
        self.refuse(wide(["(g)"] * 16))
        self.assertEqual(len(paths_of(wide(["(g)"] * 16), "f", deep=1)), 16)

    def test_very_many(self):
        calls = "(parts (f) (f) (f) (f))"
        program = read_program(f"(def f () (parts {calls} {calls} {calls} (parts {calls})))")
        self.assertEqual(paths_of(program, "f"), [])
        self.assertEqual(len(paths_of(program, "f", rings=1, deep=5)), 16)
        self.refuse(program, rings=2, deep=2)
        self.refuse(program, rings=3, deep=5)

    def test_the_list_is_the_askers_own(self):
        found = paths_of(PROGRAM, "f")
        found.clear()
        self.assertEqual(len(paths_of(PROGRAM, "f")), 4)


if __name__ == "__main__":
    unittest.main()
