"""Points 8 and 86: the forest of a root on runs, and its best choice."""

import itertools
import unittest

from callmelt.best import best_choice, forest
from callmelt.bounds import shows
from callmelt.choices import is_choice, melted
from callmelt.errors import BadRun, NoDef, TooMany
from callmelt.paths import gain_of, growth_of, paths_of
from callmelt.programs import Program, read_program
from callmelt.savings import saved
from callmelt.tallies import tally
from callmelt.trees import size_of
from tests.helper import (
    BRANCHING, OTHER_THINGS, TANGLED, all_takings, grown_programs, nested_lists, rows_of_args, shown, weight_of, worth_of,
)

PROGRAM = read_program(BRANCHING)
ROWS = [[1, 2], [2, 2], [3, 0], [-1, 5], [2, 1], [0, 0]]


def wide(many):
    """A program whose def f has so many calls, at most sixteen, of g, and as many paths more of k."""
    fours = ["(parts " + " ".join(["(g)"] * len(range(at, min(at + 4, many)))) + ")" for at in range(0, many, 4)]
    return read_program(f"(def f (a) (parts {' '.join(fours)}))\n(def g () (+ 1 (k)))\n(def k () 1)")


class TestForest(unittest.TestCase):
    def test_above_worth_and_weight(self):
        # (f a), its (k); (f (f b)), its (k); (f b), its (k); (g c), its (f a), its (k).
        self.assertEqual(forest(PROGRAM, "m", [[1, 2]]), [
            (None, 3, 2), (0, 2, 1), (None, 2, 3), (2, 2, 1), (None, 3, 2), (4, 2, 1), (None, 0, 2), (6, 0, 2), (7, 0, 1),
        ])
        self.assertEqual(forest(PROGRAM, "m", [[2, 2], [1, 2], [4, 3]]), [
            (None, 3, 2), (0, 2, 1), (None, 2, 3), (2, 2, 1), (None, 3, 2), (4, 2, 1), (None, 15, 2), (6, 15, 2), (7, 10, 1),
        ])

    def test_fuel_rings_and_deep(self):
        self.assertEqual(forest(PROGRAM, "m", [[9, 9]], fuel=5, deep=1), [
            (None, 0, 2), (None, 0, 3), (None, 0, 2), (None, 3, 2),
        ])
        self.assertEqual(forest(PROGRAM, "r", [[9]], rings=2, deep=2), [
            (None, 2, 1), (None, 3, 3), (1, 2, 1), (1, 3, 3),
        ])
        self.assertEqual(forest(PROGRAM, "k", [[]]), [])

    def test_weights_below_nought(self):
        program = read_program("(def f (a) (g 1 2 a a))\n(def g (a b c d) (k c))\n(def k (a) a)")
        self.assertEqual(forest(program, "f", [[1], [2]]), [(None, 12, -2), (0, 6, 0)])

    def test_an_item_for_each_path_of_the_tally(self):
        asked = 0
        for program, root, keywords in grown_roots(86):
            runs = rows_of_args(program, root)
            told = tally(program, root, runs, **keywords)
            paths = [path for path, many in told]
            items = forest(program, root, runs, **keywords)
            self.assertEqual(len(items), len(told))
            for (path, many), (above, worth, weight) in zip(told, items):
                self.assertEqual(above, paths.index(path[:-1]) if len(path) > 2 else None)
                self.assertEqual((worth, weight), (gain_of(program, path) * many, growth_of(program, path)))
                asked += 1
        self.assertGreater(asked, 300)


def grown_roots(seed):
    """Programs, with roots and keywords, of at most ten paths each."""
    programs = [Program(defs) for defs in grown_programs(30, seed)] + [read_program(text) for text in TANGLED]
    for program, rings, deep, fuel in itertools.product(programs, [0, 1], [1, 3], [100, 20]):
        for root in program.names():
            try:
                few = len(paths_of(program, root, rings=rings, deep=deep)) <= 10
            except TooMany:
                few = False
            if few:
                yield program, root, {"rings": rings, "deep": deep, "fuel": fuel}


class TestBestChoice(unittest.TestCase):
    def check(self, program, root, runs, room, keywords):
        """The best choice beside all choices of these paths within the room."""
        told = best_choice(program, root, runs, room=room, **keywords)
        self.assertIsInstance(told, tuple)
        worth, choice, paper = told
        fuel = keywords.get("fuel", 60)
        self.assertTrue(is_choice(program, root, choice))
        growth = size_of(melted(program, root, choice)) - size_of(program.body(root))
        self.assertLessEqual(growth, room)
        self.assertEqual(saved(program, root, choice, runs, fuel=fuel), worth)
        items = forest(program, root, runs, **keywords)
        paths = [path for path, many in tally(program, root, runs, **keywords)]
        takings = [taking for taking in all_takings(items) if weight_of(items, taking) <= room]
        self.assertEqual(worth, max(worth_of(items, taking) for taking in takings))
        self.assertTrue(set(choice) <= set(paths))
        self.assertIs(shows(items, room, worth, paper), True)
        return worth > 0 and len(takings) < len(all_takings(items))

    def test_ordinary(self):
        runs = [[2, 2], [1, 2], [4, 3]]
        for room, wanted in [
            (0, (0, [])), (1, (0, [])), (2, (15, [("m", 13)])), (3, (15, [("m", 13)])),
            (4, (30, [("m", 13), ("m", 13, 1)])), (5, (40, [("m", 13), ("m", 13, 1), ("m", 13, 1, 1)])),
            (1000, (54, paths_of(PROGRAM, "m"))),
        ]:
            self.assertEqual(best_choice(PROGRAM, "m", runs, room=room)[:2], wanted)
            self.check(PROGRAM, "m", runs, room, {})

    def test_no_paths(self):
        for room in [0, 60]:
            worth, choice, paper = best_choice(PROGRAM, "k", [[]], room=room)
            self.assertEqual((worth, choice), (0, []))
            self.assertIs(shows([], room, 0, paper), True)

    def test_all_choices_by_what_they_save(self):
        # Sought here by saved alone, with no forest.
        runs = [[2, 2], [1, 3], [9, 1]]
        paths = paths_of(PROGRAM, "m")
        lists = [list(some) for many in range(10) for some in itertools.combinations(paths, many)]
        choices = [some for some in lists if is_choice(PROGRAM, "m", some)]
        told = [(saved(PROGRAM, "m", some, runs), sum(growth_of(PROGRAM, path) for path in some)) for some in choices]
        for room in range(15):
            most = max(less for less, growth in told if growth <= room)
            self.assertEqual(best_choice(PROGRAM, "m", runs, room=room)[0], most)

    def test_many_programs(self):
        hard = 0
        for program, root, keywords in grown_roots(8):
            for room in [0, 5, 13, 60]:
                hard += self.check(program, root, rows_of_args(program, root), room, keywords)
        self.assertGreater(hard, 100)

    def test_the_defaults(self):
        runs = [[2, 2], [50, 40]]
        told = best_choice(PROGRAM, "m", runs)
        self.assertEqual(told, best_choice(PROGRAM, "m", runs, rings=0, deep=3, room=60, fuel=60))
        self.assertEqual(forest(PROGRAM, "m", runs), forest(PROGRAM, "m", runs, rings=0, deep=3, fuel=60))

    def test_just_ten_paths(self):
        worth, choice, paper = best_choice(wide(5), "f", [[1]])
        self.assertEqual((worth, len(choice)), (20, 10))
        self.check(wide(5), "f", [[1]], 7, {})

    def test_what_is_told_is_the_askers_own(self):
        runs = [[2, 2]]
        told, wanted = best_choice(PROGRAM, "m", runs), best_choice(PROGRAM, "m", runs)
        told[1].clear()
        told[2].clear()
        self.assertEqual(runs, [[2, 2]])
        self.assertEqual(best_choice(PROGRAM, "m", runs), wanted)


class TestRefusals(unittest.TestCase):
    def test_no_def_ahead_of_all(self):
        for root in OTHER_THINGS + ["z", "M", "def", ("m",), nested_lists(200), 10 ** 5000]:
            for ask, runs in itertools.product([forest, best_choice], [[[1, 2]], [], None]):
                with self.assertRaises(NoDef) as caught:
                    ask(PROGRAM, root, runs)
                self.assertIs(caught.exception.name, root)

    def refuse_many(self, program, number, **keywords):
        for ask, runs in itertools.product([forest, best_choice], [[[1]], [], None, [None]]):
            with self.assertRaises(TooMany) as caught:
                ask(program, "f", runs, **keywords)
            self.assertEqual(caught.exception.number, number)

    def test_too_many_ahead_of_bad_run(self):
        self.refuse_many(wide(6), 10)
        self.refuse_many(wide(16), 10)
        self.assertEqual(len(forest(wide(10), "f", [[1]], deep=1)), 10)
        self.refuse_many(wide(11), 10, deep=1)
        calls = "(parts (f a) (f a) (f a) (f a))"
        rounds = read_program(f"(def f (a) (parts {calls} {calls}))")
        self.assertEqual(len(forest(rounds, "f", [[1]], rings=1)), 8)
        self.refuse_many(rounds, 40, rings=2)
        rounds = read_program(f"(def f (a) (parts {calls} {calls} {calls}))")
        self.assertEqual(forest(rounds, "f", [[1]]), [])
        self.refuse_many(rounds, 10, rings=1)

    def test_bad_run(self):
        rows = [(None, 0), ([], 0), (([1, 2],), 0), ({}, 0), ([1, 2], 0), ([[1, 2], [1]], 1), ([[1, 2], (1, 2)], 1),
                (ROWS + [[1, 2]], 6), (ROWS + [None], 6), (ROWS[:5] + [[1, None]], 5), (ROWS[:3] + [[1, 10 ** 18 + 1], 7], 3)]
        rows += [([[1, 2], [2, 1], thing, None], 2) for thing in OTHER_THINGS]
        for (runs, at), ask in itertools.product(rows, [forest, best_choice]):
            with self.assertRaises(BadRun) as caught:
                ask(PROGRAM, "m", runs)
            self.assertEqual(caught.exception.at, at, shown(runs))


if __name__ == "__main__":
    unittest.main()
