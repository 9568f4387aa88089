"""Point 71: what a choice saves on runs."""

import unittest

from callmelt.choices import melted
from callmelt.errors import BadRun, NoChoice, NoDef
from callmelt.paths import gain_of
from callmelt.programs import Program, read_program
from callmelt.runs import entered, run
from callmelt.savings import prices, saved
from tests.helper import (
    BRANCHING, OTHER_THINGS, TANGLED, grown_choices, grown_programs, nested_lists, rows_of_args, shown,
)

PROGRAM = read_program(BRANCHING)
ROWS = [[1, 2], [2, 2], [3, 0], [-1, 5], [2, 1], [0, 0]]


class TestSaved(unittest.TestCase):
    def check(self, choice, runs, own, less, **keywords):
        """What the runs of m pay with its own body, and how much less with it melted."""
        paths = [("m", *path) for path in choice]
        self.assertEqual(saved(PROGRAM, "m", paths, runs, **keywords), less)
        self.assertEqual(prices(PROGRAM, "m", paths, runs, **keywords), (own, own - less))

    def test_the_empty_choice(self):
        self.check([], [[1, 2]], 15, 0)
        self.check([], [[2, 2]], 16, 0)
        self.check([], [[3, 0]], 0, 0)

    def test_one_path(self):
        # A plain arg is gained, too.
        self.check([[5]], [[1, 2]], 15, 3)
        self.check([[7]], [[1, 2]], 15, 2)
        self.check([[8]], [[1, 2]], 15, 3)
        self.check([[13]], [[1, 2]], 15, 0)
        self.check([[13]], [[2, 2]], 16, 6)

    def test_more_paths_and_runs(self):
        self.check([[5], [5, 1], [13], [13, 1], [13, 1, 1]], [[1, 2], [2, 2]], 31, 21)
        self.check([[5], [5, 1], [7], [7, 1], [8], [8, 1]], [[1, 2], [1, 3], [-4, -2], [2, 1]], 53, 42)
        self.check([[13], [13, 1], [13, 1, 1]], [[2, 3]] * 6, 90, 0)
        self.check([[13], [13, 1], [13, 1, 1]], [[5, 3]] * 6, 144, 144)

    def test_dry_runs(self):
        # if, <, loop, one tick for the turn; then (g c), which is paid, and mark, (f a).
        self.check([[13], [13, 1]], [[5, 3]], 0, 0, fuel=4)
        self.check([[13], [13, 1]], [[5, 3]], 3, 3, fuel=5)
        self.check([[13], [13, 1]], [[5, 3]], 3, 3, fuel=6)
        self.check([[13], [13, 1]], [[5, 3]], 6, 6, fuel=7)
        self.check([[13], [13, 1]], [[50, 50]], 8 * 9 + 3 + 3, 6 * 10, fuel=61)
        self.check([[13], [13, 1]], [[50, 50]], 8 * 9 + 3, 6 * 9 + 3)

    def test_paths_of_up_to_five_numbers_and_of_rings(self):
        choice = [("r",) + (2,) * many for many in range(1, 6)] + [("r", 2, 2, 2, 2, 1)]
        # Of each call of itself 3 are gained; each takes three ticks, so that with ten fuel three were paid.
        for fuel, less in [(0, 0), (3, 3), (6, 6), (10, 9), (15, 15 + 2), (100, 15 + 2)]:
            self.assertEqual(saved(PROGRAM, "r", sorted(choice), [[1]], fuel=fuel), less, fuel)

    def test_as_the_runs_pay(self):
        programs = [Program(defs) for defs in grown_programs(40, 71)] + [read_program(text) for text in TANGLED]
        some = 0
        for program in programs:
            for root in program.names():
                for choice in grown_choices(program, root, 3, 71):
                    some += self.compare(program, root, choice, rows_of_args(program, root), 60)
                    some += self.compare(program, root, choice, rows_of_args(program, root)[1:3], 14)
        self.assertGreater(some, 200)

    def compare(self, program, root, choice, runs, fuel):
        body = melted(program, root, choice)
        own = sum(run(program, root, args, fuel=fuel)[3] for args in runs)
        with_body = sum(run(program, root, args, fuel=fuel, body=body)[3] for args in runs)
        self.assertEqual(prices(program, root, choice, runs, fuel=fuel), (own, with_body))
        each = [dict(entered(program, root, args, fuel=fuel)) for args in runs]
        less = sum(gain_of(program, path) * one.get(path, 0) for path in choice for one in each)
        self.assertEqual(saved(program, root, choice, runs, fuel=fuel), less)
        self.assertEqual(own - with_body, less)
        return less > 0

    def test_the_fuel_is_60_where_none_is_told(self):
        for ask in [saved, prices]:
            choice, runs = [("m", 13)], [[50, 50]]
            self.assertEqual(ask(PROGRAM, "m", choice, runs), ask(PROGRAM, "m", choice, runs, fuel=60))
            self.assertNotEqual(ask(PROGRAM, "m", choice, runs), ask(PROGRAM, "m", choice, runs, fuel=100))

    def test_nothing_handed_in_is_changed(self):
        choice, runs = [("m", 5), ("m", 5, 1)], [[1, 2], [2, 2]]
        for ask in [saved, prices]:
            ask(PROGRAM, "m", choice, runs)
            self.assertEqual((choice, runs), ([("m", 5), ("m", 5, 1)], [[1, 2], [2, 2]]))


class TestRefusals(unittest.TestCase):
    def test_no_def_ahead_of_all(self):
        for root in OTHER_THINGS + ["z", "M", "def", ("m",), nested_lists(200), 10 ** 5000]:
            for choice, runs in [([], [[1, 2]]), (None, None), ([None], [None]), ([("m", 5)], [])]:
                for ask in [saved, prices]:
                    with self.assertRaises(NoDef) as caught:
                        ask(PROGRAM, root, choice, runs)
                    self.assertIs(caught.exception.name, root)

    def test_no_choice_ahead_of_bad_run(self):
        for choice, at in [(None, 0), ((), 0), ([None], 0), ([("m", 5), ("m", 5)], 1), ([("m", 5), ("m", 7, 1)], 1),
                           ([("m", 5), ("m", 6)], 1), ([("f", 1)], 0), ([("m", 5), ["m", 7]], 1), ([("m", True)], 0)]:
            for runs in [[[1, 2]], [], None, [None]]:
                for ask in [saved, prices]:
                    with self.assertRaises(NoChoice) as caught:
                        ask(PROGRAM, "m", choice, runs)
                    self.assertEqual(caught.exception.at, at, choice)

    def test_bad_run(self):
        rows = [(None, 0), ([], 0), (([1, 2],), 0), ({}, 0), ("", 0), ([1, 2], 0), ([[1, 2], [1]], 1), ([[1, 2], (1, 2)], 1),
                (ROWS + [[1, 2]], 6), (ROWS + [None], 6), (ROWS[:5] + [[1, None]], 5), (ROWS[:3] + [[1, 10 ** 18 + 1], 7], 3)]
        rows += [([[1, 2], [2, 1], thing, None], 2) for thing in OTHER_THINGS]
        for runs, at in rows:
            for choice in [[], [("m", 5)]]:
                for ask in [saved, prices]:
                    with self.assertRaises(BadRun) as caught:
                        ask(PROGRAM, "m", choice, runs)
                    self.assertEqual(caught.exception.at, at, shown(runs))


if __name__ == "__main__":
    unittest.main()
