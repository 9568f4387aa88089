"""Point 70: how often runs enter each path of a root."""

import itertools
import unittest

from callmelt.errors import BadRun, NoDef, TooMany
from callmelt.paths import paths_of
from callmelt.programs import Program, read_program
from callmelt.runs import entered
from callmelt.tallies import tally
from tests.helper import (
    BRANCHING, OTHER_THINGS, TANGLED, grown_programs, nested_lists, nested_tuples, rows_of_args, shown,
)

PROGRAM = read_program(BRANCHING)
ROWS = [[1, 2], [2, 2], [3, 0], [-1, 5], [2, 1], [0, 0]]
# Things that are no list of two values.
NO_ARGS = [
    None, (), (1, 2), [], [1], [1, 2, 3], [1, None], [1, "2"], [1, 10 ** 18 + 1], [-10 ** 18 - 1, 1], [1, [2]], {1: 2, 2: 1},
    [1, 10 ** 5000], "12", b"12", 12, True, [[1, 2]], [1, (1, 2, 3, 4, 5)], [(1, None), 2], nested_lists(190), [1j, 1],
    [nested_tuples(190), 1], [1] * 5000, [1, ((((0,) * 4,) * 4,) * 4,)],
]


def wide(many):
    """A program whose def f has so many calls, at most sixteen, of g, which has three."""
    fours = ["(parts " + " ".join(["(g)"] * len(range(at, min(at + 4, many)))) + ")" for at in range(0, many, 4)]
    return read_program(f"(def f (a) (parts {' '.join(fours)}))\n(def g () (parts (k) (k) (k)))\n(def k () 1)")


class TestTally(unittest.TestCase):
    def check(self, root, runs, wanted, **keywords):
        """The numbers of each path without the root, and how often it is entered."""
        found = tally(PROGRAM, root, runs, **keywords)
        self.assertEqual(found, [((root, *path), many) for path, many in wanted])

    def test_one_run(self):
        self.check("m", [[1, 2]], [
            ([5], 1), ([5, 1], 1), ([7], 1), ([7, 1], 1), ([8], 1), ([8, 1], 1), ([13], 0), ([13, 1], 0), ([13, 1, 1], 0),
        ])
        self.check("m", [[2, 2]], [
            ([5], 0), ([5, 1], 0), ([7], 0), ([7, 1], 0), ([8], 0), ([8, 1], 0), ([13], 2), ([13, 1], 2), ([13, 1, 1], 2),
        ])

    def test_runs_together(self):
        self.check("m", [[1, 2], [2, 2], [-1, 5], [1, 2], [3, 3]], [
            ([5], 3), ([5, 1], 3), ([7], 3), ([7, 1], 3), ([8], 3), ([8, 1], 3), ([13], 5), ([13, 1], 5), ([13, 1, 1], 5),
        ])

    def test_deep_and_rings(self):
        self.check("m", [[2, 2], [3, 1]], [([5], 0), ([7], 0), ([8], 0), ([13], 3)], deep=1)
        self.check("r", [[1], [2]], [([1], 2)], deep=5)
        self.check("r", [[1], [2]], [([1], 2), ([2], 2), ([2, 1], 2)], rings=1)
        self.check("r", [[1], [2]], [([1], 2), ([2], 2), ([2, 1], 2), ([2, 2], 2)], rings=3, deep=2)

    def test_dry_runs(self):
        # m: if, <, loop, then a tick for each turn, and for a call of g: (g c), mark, (f a), *, (k).
        self.check("m", [[9, 9]], [
            ([5], 0), ([5, 1], 0), ([7], 0), ([7, 1], 0), ([8], 0), ([8, 1], 0), ([13], 1), ([13, 1], 1), ([13, 1, 1], 0),
        ], fuel=8)
        for fuel in range(40):
            turns = [max(0, fuel - first + 6) // 6 for first in (5, 7, 9)]
            found = dict(tally(PROGRAM, "m", [[9, 9], [9, 8]], fuel=fuel))
            entries = [found["m", 13], found["m", 13, 1], found["m", 13, 1, 1]]
            self.assertEqual(entries, [2 * many for many in turns], fuel)

    def test_refused_runs(self):
        self.check("m", [[True, 1]], [
            ([5], 0), ([5, 1], 0), ([7], 0), ([7, 1], 0), ([8], 0), ([8, 1], 0), ([13], 0), ([13, 1], 0), ([13, 1, 1], 0),
        ])
        program = read_program("(def m (a) (+ (k) (+ (f a) (k))))\n(def f (a) (+ (k) (/ 1 a)))\n(def k () 1)")
        self.assertEqual(tally(program, "m", [[0], [1], [True]]),
                         [(("m", 1), 3), (("m", 3), 3), (("m", 3, 1), 3), (("m", 5), 1)])

    def test_no_paths(self):
        self.assertEqual(tally(PROGRAM, "k", [[]]), [])
        self.assertEqual(tally(PROGRAM, "k", [[]] * 6), [])

    def test_as_the_runs_enter_them_one_by_one(self):
        programs = [Program(defs) for defs in grown_programs(40, 70)] + [read_program(text) for text in TANGLED]
        asked, entries = 0, 0
        for program, rings, deep, fuel in itertools.product(programs, [0, 1], [1, 3, 5], [100, 13]):
            for root in program.names():
                try:
                    paths = paths_of(program, root, rings=rings, deep=deep)
                except TooMany:
                    continue
                runs = rows_of_args(program, root)
                each = [dict(entered(program, root, args, deep=deep, fuel=fuel)) for args in runs]
                wanted = [(path, sum(one.get(path, 0) for one in each)) for path in paths]
                self.assertEqual(tally(program, root, runs, rings=rings, deep=deep, fuel=fuel), wanted)
                asked += 1
                entries += any(many for path, many in wanted)
        self.assertGreater(asked, 500)
        self.assertGreater(entries, 200)

    def test_the_defaults(self):
        for root in "mgr":
            runs = [[5, 2, 7][:len(PROGRAM.params(root))]]
            self.assertEqual(tally(PROGRAM, root, runs), tally(PROGRAM, root, runs, rings=0, deep=3, fuel=60))

    def test_nothing_handed_in_is_changed_and_the_list_is_the_askers_own(self):
        runs = [[1, 2], [2, 2]]
        found = tally(PROGRAM, "m", runs)
        self.assertEqual(runs, [[1, 2], [2, 2]])
        wanted = list(found)
        found.clear()
        runs[0][0] = 77
        self.assertEqual(tally(PROGRAM, "m", [[1, 2], [2, 2]]), wanted)


class TestRefusals(unittest.TestCase):
    def test_no_def_ahead_of_all(self):
        for root in OTHER_THINGS + ["z", "M", "def", ("m",), nested_lists(200), 10 ** 5000]:
            for runs in [[[1, 2]], [], None, [None]]:
                with self.assertRaises(NoDef) as caught:
                    tally(PROGRAM, root, runs)
                self.assertIs(caught.exception.name, root)

    def test_too_many_ahead_of_bad_run(self):
        self.assertEqual(len(tally(wide(10), "f", [[1]])), 40)
        for runs in [[[1]], [], None, [None], [[1]] * 7]:
            with self.assertRaises(TooMany) as caught:
                tally(wide(11), "f", runs)
            self.assertEqual(caught.exception.number, 40)

    def refuse(self, runs, at):
        with self.assertRaises(BadRun) as caught:
            tally(PROGRAM, "m", runs)
        self.assertEqual(caught.exception.at, at, shown(runs))

    def test_no_list_and_an_empty_one(self):
        for runs in OTHER_THINGS + [([1, 2],), {0: [1, 2]}, "m", nested_tuples(200), 10 ** 5000]:
            self.refuse(runs, 0)

    def test_the_first_that_is_no_list_of_as_many_values(self):
        for thing in NO_ARGS + OTHER_THINGS:
            for at in range(6):
                self.refuse(ROWS[:at] + [thing] + ROWS[at + 1:], at)
            self.refuse(ROWS[:2] + [thing, None, []], 2)

    def test_the_seventh(self):
        self.assertEqual(len(tally(PROGRAM, "m", ROWS)), 9)
        self.refuse(ROWS + [[1, 2]], 6)
        self.refuse(ROWS + [None], 6)
        self.refuse(ROWS * 3, 6)
        self.refuse(ROWS[:5] + [[1]] + ROWS, 5)
        self.refuse([[1, 2]] * 2000, 6)


if __name__ == "__main__":
    unittest.main()
